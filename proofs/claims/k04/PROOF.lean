import PyProof.Rows.All
import Wide.All
import OpenK.AllK
import Wide.FinOn
import HandS.ExcOwn
import HandS.EndTab
import HandS.ForMost
import HandS.GenList
import HandS.AnyAll
import PyProof.CollectWalk
import PyProof.TupleOfGen
import HandS.Base
import HandS.Call
import HandS.List
import HandS.TupAny
import HandS.TupMul
import HandS.Conv
import HandS.Small
import KE.KDictCopyH
import HandS.IsInst
import KE.KDictZip
import HandS.ExcIs
import PyProof.Rows.TupTab
import HandS.Wide
import HandS.DeepEq
import HandS.TupLe
import HandS.SortRule
import HandS.SortInts
import HandS.Style
import HandS.WordsExc
import HandS.TryOnly
import HandS.Iter
import KE.GoesEnum
import KE.KRevSl
import HandS.EndOwn
import KE.KNestM
import KE.DatumOrd
import HandS.More
import PyProof.ReprRoads
import PyProof.ReprLen
import PyProof.P3In
import HandS.Deep
import HandS.TupLen
import KE.KDictList
import KE.KDictSum
import KE.KDictWalk
import HandS.Sort
import HandS.Zip
import KE.KTupSum
import HandS.SetKeys
import PyProof.ListNew
import HandS.TryMany
import PyProof.NoPylong
import KE.KDictDisplayH
import HandS.Dict
import KE.DataFind
import HandS.SortKw
import KE.DataMinMax
import PyProof.Rows.BitMore
import HandS.Strs
import HandS.SetFor
import HandS.Lambda
import KE.SortKeyHeap
import PyProof.SumAny
import HandS.ForList
import PySem.Challenge.RW_allasked_k04_webs_made_or_none
set_option Elab.async false
set_option linter.all false
set_option maxRecDepth 100000
set_option maxHeartbeats 4000000
/-! own defs, called where nothing is being shown (repr looks at what is under way) -/
namespace Gr
open PySem PySem.Spec PyProof.Rows L2
/-- room, and no repr under way -/
structure RoomG (k : Nat) (A : Around) : Prop extends Room k A where
  gd : A.guards = some []
theorem RoomG.step {k : Nat} {A : Around} (r : RoomG (k + 1) A) (en : Env) : RoomG k (A.deeper en) := ⟨r.toRoom.deeper en, r.gd⟩
structure FnG (P : Program) (w : World) (K : PySem.W.Frag) (mg : Str → Option Value) (base : Heap) (CX : CXT) (k : Nat) (f : Addr) (fd : FuncData) (ps : List Str) (sp : Sp) : Prop where
  len : ∀ xs H Q W, sp xs H Q W → xs.length = ps.length
  run : ∀ (A : Around) (out : List Env) (t : Shared) (H : Hp) (as : Args) (us : List Value) (xs : List V) (Q : VK) (W : XK), RoomG k A → Env0 P w K mg base A out t H → BindsTo t fd as (ps.zip us) → Vals xs us → sp xs H Q W →
    codeAny (model P w) A (.call (.ref f) as) (CR CX out P w H t Q W) t
theorem FnG.of {P : Program} {w : World} {K : PySem.W.Frag} {mg : Str → Option Value} {base : Heap} {CX : CXT} {k : Nat} {f : Addr} {fd : FuncData} {ps : List Str} {sp : Sp} (F : FnOk P w K mg base CX k f fd ps sp) : FnG P w K mg base CX k f fd ps sp :=
  ⟨F.len, fun A out t H as us xs Q W hr => F.run A out t H as us xs Q W hr.toRoom⟩
section
variable {X : Cx} {CX : CXT} {k : Nat} {f : Addr} {fd : FuncData} {ps : List Str} {sp : Sp} {E : L2.St → XK} {x : Str} {p pos : Pos} {e : Expr} {es : List Expr} {ta : TA}
theorem run_G {pins : List (Addr × Obj)} {σ : L2.St} {H : Hp} {t : Shared} {Q : VK} {us : List Value} {xs : List V} (G : FnG X.prog X.w X.K X.mg X.base CX k f fd ps sp) (rm : RoomG k X.A) (bd : Binds X.K fd ps []) (pa : PassesAt CX X σ (E σ))
    (I : Inv X pins σ H t) (rv : Vals xs us) (q : sp xs H Q (E σ)) : wpAny (model X.prog X.w) X.A (call (.ref f) us) (EP X pins σ Q) X.xe t := by
  have n2 : us.length = ps.length := rv.length.symm.trans (G.len _ _ _ _ q)
  have b := bd t us I.kIn (by simpa using n2)
  have b2 : BindsTo t fd ⟨us, []⟩ (ps.zip us) := by simpa using b
  apply wpAny_call
  apply codeAny_mono (G.run X.A X.stack t H ⟨us, []⟩ us xs Q (E σ) rm I.env0 b2 rv q)
  intro r t' z
  match r, z with
  | .error er, z => exact pa pins H t er t' I z
  | .ok (.ret _), z => exact I.after z
  | .ok .next, z => exact z.elim
  | .ok .brk, z => exact z.elim
  | .ok .cont, z => exact z.elim
theorem pe_callG (G : FnG X.prog X.w X.K X.mg X.base CX k f fd ps sp) (rm : RoomG k X.A) (gl : Gl X x) (gm : X.mg x = some (.ref f)) (gk : PySem.W.keepIn X.K (.ref f) = true) (bd : Binds X.K fd ps []) (pa : ∀ σ, PassesAt CX X σ (E σ))
    (ha : PA X (e :: es) ta) (db : (x == ("__debug__" : Str)) = false) (st : starEach (e :: es) X.env = (false, eval e X.env) :: starEach es X.env) (pl : (backTo pos (starEach es X.env)).any (·.1) = false) :
    PE X (.Call (.Name x p) (e :: es) [] pos) (tCallS sp E ta) := by
  constructor
  intro pins t σ H Q I hq
  apply wpAny_Call_Name_kw
  apply ld_glob I gl gm _ db
  exact PySem.W.callWith_K (h₀ := X.base) I.ok.mod.kin gk (thn (ha.run pos pins t σ H _ I hq) fun us t1 ⟨xs, H1, I1, rv, z⟩ => ⟨I1.kIn, run_G G rm bd (pa σ) I1 rv z⟩) st pl
end
/-- a def by its body -/
theorem fn_ofG {CX : CXT} {P : Program} {w : World} {K : PySem.W.Frag} {mg : Str → Option Value} {base : Heap} {k : Nat} {f : Addr} {name qual : Str} {params : Arguments} {body : List Stmt} {scope : Scope} {dV kV doc pm cdv ct oc : Value} {an od : Option Addr}
    {N ps : List Str} {osl : Array (Option Value)} {sp : Sp} (lk : K.lookup f = some ⟨oc, od, .func (PySem.W.fnOf name qual params body scope dV kV doc pm an cdv ct), osl⟩) (hcd : PySem.W.codeIn K cdv qual = true) (S : FnScope N ps scope)
    (len : ∀ xs H Q W, sp xs H Q W → xs.length = ps.length)
    (bdy : ∀ (A : Around) (out : List Env) (t : Shared) (H : Hp) (xs : List V) (Q : VK) (W : XK), RoomG k (A.deeper (envOfC qual scope t.heap.objs.size f cdv)) → sp xs H Q W →
      ∃ m, PSs (cxOf CX P w K mg base N qual scope f cdv A out t H W) body m ∧ m { nx := fun _ H' => Q .non H', rt := Q } (start N xs) H) :
    FnG P w K mg base CX (k + 1) f (PySem.W.fnOf name qual params body scope dV kV doc pm an cdv ct) ps sp := by
  constructor
  · exact len
  intro A out t H as us xs Q W rm en bt rv hs
  have old : ∀ b o, base.get? b = some o → t.heap.get? b = some o := fun b o z => (en.bs b o z).1
  have KI : K.In t.heap := en.mod.kin.keeps old
  have NL : t.heap.NoLimit := en.mod.nolimit.keeps old
  have kd : ∀ y ∈ ps.zip us, scope.names.lookup y.1 = some .local ∨ (scope.names.lookup y.1 = some .cell ∧ ((cellsFrom (t.heap.objs.size + 1) scope.names []).lookup y.1).isSome = true) := by
    rintro ⟨nm, u⟩ hy
    cases S.par nm (List.of_mem_zip hy).1 with
    | inl z => exact .inl z
    | inr z => exact .inr ⟨z, PySem.W.cellsFrom_some _ _ _ (.inl z)⟩
  apply codeAny_call_function rm.depth (KI _ _ lk) rfl S.co S.gen rfl (PySem.W.codeRec_of KI hcd)
  apply bt
  apply wpAny_newFunctionEnv_cells S.kind kd
  rintro env rfl t1 x
  refine ⟨NL.keeps x.toInCall.keep, codeAny_func ?_⟩
  obtain ⟨m, hm, hq⟩ := bdy A out t H xs Q W (rm.step _) hs
  have J : Inv (cxOf CX P w K mg base N qual scope f cdv A out t H W) [] (start N xs) H t1 := inv_start S rm.hd en (len _ _ _ _ hs) rv x
  apply wpAny_mono (hm.run [] t1 (start N xs) H _ J hq)
  · intro fl t' z
    match fl, z with
    | .ret u, ⟨v, σ', H', J', rv', q'⟩ => exact ⟨v, H', J'.os, J'.bare, J'.base, J'.hok, rv', q'⟩
    | .next, ⟨σ', H', J', q'⟩ => exact ⟨V.non, H', J'.os, J'.bare, J'.base, J'.hok, rfl, q'⟩
    | .brk, ⟨_, _, _, q'⟩ => exact q'.elim
    | .cont, ⟨_, _, _, q'⟩ => exact q'.elim
  · exact fun _ _ z => z
end Gr

namespace Gr
open PySem PySem.Spec PyProof.Rows L2 LamX
section
variable {P : Program} {w : World} {K : PySem.W.Frag} {mg mb : Str → Option Value} {CX : CXT} {k : Nat} {fa sa : Addr} {tb : List (Addr × Addr)} {fd : FuncData} {x : Str} {sp : Sp} {t0 : Shared} {us : List Value} {ns : List Int}
/-- what is known of the state ahead of the law -/
structure Ahead (K : PySem.W.Frag) (mg mb : Str → Option Value) (tb : List (Addr × Addr)) (sa : Addr) (us : List Value) (t0 : Shared) : Prop where
  kin : K.In t0.heap
  main : t0.heap.Ns mainGlobals mg
  bns : t0.heap.Ns builtinsNs mb
  boot : ∀ y : Str, y ≠ "__name__" → mb y = bootBuiltins y
  lim : t0.heap.NoLimit
  gens : t0.gens = #[]
  tabs : ∀ p ∈ tb, t0.heap.get? p.2 = some { cls := .none, data := .fields #[] }
  ntab : ∀ p ∈ tb, K.lookup p.2 = none
  heads : ∀ p ∈ tb, PySem.W.CodeHd t0.heap p.1 p.2
  bmod : ∃ (m : Addr) (om : Obj), mg "__builtins__" = some (.ref m) ∧ m ≠ builtinsNs ∧ t0.heap.get? m = some om ∧ om.cls = .type "module" ∧ om.dict = some builtinsNs ∧ om.data = .plain
  scr : t0.heap.get? sa = some { cls := .type "list", data := .seq us.toArray }
/-- an abstract heap of nothing but the script and the tables -/
structure Bare (P : Program) (w : World) (K : PySem.W.Frag) (tb : List (Addr × Addr)) (sa : Addr) (t0 : Shared) (H : Hp) : Prop where
  tab : ∀ p ∈ tb, H p.2 = some (.tbl #[])
  only : ∀ b u, H b = some u → (∃ p ∈ tb, p.2 = b) ∨ (b = sa ∧ K.lookup sa = none ∧ ∃ o ys, u = .frz o (.lst ys))
  ok : HOk P w H t0.heap
theorem Bare.free {H : Hp} (h : Ahead K mg mb tb sa us t0) (hb : Bare P w K tb sa t0 H) {b : Addr} {o : Obj} (e : t0.heap.get? b = some o) (n1 : ∀ ys n, o.data ≠ .seq ys n) (n2 : o.data ≠ .fields #[]) : H b = none := by
  match q : H b with
  | none => rfl
  | some u =>
    rcases hb.only b u q with ⟨p, hp, rfl⟩ | ⟨rfl, _⟩
    · have z := (h.tabs p hp).symm.trans e
      cases z
      exact absurd rfl n2
    · have z := h.scr.symm.trans e
      cases z
      exact absurd rfl (n1 _ _)
theorem Bare.keep {H : Hp} (h : Ahead K mg mb tb sa us t0) (hb : Bare P w K tb sa t0 H) {b : Addr} {m : Str → Option Value} (e : t0.heap.Ns b m) : (hidT t0.heap H).Ns b m := by
  obtain ⟨o, es, ep, e1, e2, e3⟩ := e
  refine ⟨o, es, ep, hidT_get e1 (hb.free h e1 ?_ ?_), e2, e3⟩ <;> simp [e2]
theorem Bare.kin {H : Hp} (h : Ahead K mg mb tb sa us t0) (hb : Bare P w K tb sa t0 H) : K.In (hidT t0.heap H) := by
  intro b o e
  apply hidT_get (h.kin b o e)
  match q : H b with
  | none => rfl
  | some u =>
    rcases hb.only b u q with ⟨p, hp, rfl⟩ | ⟨rfl, z, _⟩
    · rw [h.ntab p hp] at e; cases e
    · rw [z] at e; cases e
theorem Bare.mod {H : Hp} (h : Ahead K mg mb tb sa us t0) (hb : Bare P w K tb sa t0 H) : L2.Mod K mg (hidT t0.heap H) := by
  obtain ⟨ml, l1, l2⟩ := h.lim
  exact ⟨hb.kin h, hb.keep h h.main, ⟨mb, hb.keep h h.bns, h.boot⟩, ⟨ml, hb.keep h l1, l2⟩⟩
theorem Bare.tabB {H : Hp} (h : Ahead K mg mb tb sa us t0) (hb : Bare P w K tb sa t0 H) {p : Addr × Addr} (hp : p ∈ tb) : TabB (hidT t0.heap H) mg p.1 p.2 := by
  have ht := h.tabs p hp
  have nm : ∀ q : Addr, (∃ o es ep, t0.heap.get? q = some o ∧ o.data = .dict es ep) → q ≠ p.2 := by
    rintro q ⟨o, es, ep, e1, e2⟩ rfl
    rw [ht] at e1
    cases e1
    cases e2
  constructor
  · obtain ⟨o, vs, f1, f2, f3, f4, f5, f6, f7, e1, r1, r2, r3, r4⟩ := h.heads p hp
    refine ⟨o, vs, f1, f2, f3, f4, f5, f6, f7, hidT_get e1 (hb.free h e1 ?_ ?_), r1, r2, r3, r4⟩
    · intro ys n; rw [r2]; simp
    · rw [r2]
      intro z
      cases z
      simp at r3
  · obtain ⟨m, om, b1, b2, b3, b4, b5, b6⟩ := h.bmod
    refine ⟨m, om, b1, b2, ?_, ?_, hidT_get b3 (hb.free h b3 ?_ ?_), b4, b5, b6⟩
    · rintro rfl
      obtain ⟨o, es, ep, e1, e2, _⟩ := h.main
      rw [b3] at e1
      cases e1
      rw [b6] at e2
      cases e2
    · rintro rfl
      rw [ht] at b3
      cases b3
      cases b6
    · intro ys n; rw [b6]; simp
    · rw [b6]; simp
  · obtain ⟨o, es, ep, e1, e2, _⟩ := h.main
    exact nm mainGlobals ⟨o, es, ep, e1, e2⟩
/-- what comes of the law's call -/
def Told (t0 : Shared) (r : Result) (t : Shared) : Prop := r = .ok (.ret (.bool true)) ∧ OldK t0.heap t.heap ∧ t.os = t0.os ∧ AllBare t.gens
theorem Bare.told {H : Hp} (h : Ahead K mg mb tb sa us t0) (hb : Bare P w K tb sa t0 H) (rm : RoomG k callerA)
    (F : ∀ base : Heap, K.In base → base.Ns mainGlobals mg → (∀ p ∈ tb, TabB base mg p.1 p.2) → FnG P w K mg base CX k fa fd [x] sp) (bd : ∀ (t : Shared) (u : Value), BindsTo t fd ⟨[u], []⟩ [(x, u)])
    (q : sp [.ref sa] H (fun v _ => v = .bl true) fun _ _ _ => False) (nx : ∀ H e t, CX [] H t0 (fun _ _ _ => False) e t → False) :
    codeAny (model P w) callerA (.call (.ref fa) ⟨[.ref sa], []⟩) (Told t0) t0 := by
  have en : Env0 P w K mg (hidT t0.heap H) callerA [] t0 H :=
    { frames := rfl, mod := hb.mod h, bs := fun _ _ z => of_hidT z, bsz := Nat.le_of_eq (hidT_size _ _), funs := trivial, frf := (fun b z => by cases z), hok := hb.ok, bare := .of_eq h.gens }
  have go := (F _ (hb.kin h) (hb.keep h h.main) fun p hp => hb.tabB h hp).run callerA [] t0 H ⟨[.ref sa], []⟩ [.ref sa] [.ref sa] _ _ rm en (bd t0 (.ref sa)) (.cons rfl .nil) q
  apply codeAny_mono go
  intro r t z
  match r, z with
  | .error e, z => exact (nx H e t z).elim
  | .ok .next, z => exact z.elim
  | .ok .brk, z => exact z.elim
  | .ok .cont, z => exact z.elim
  | .ok (.ret u), ⟨v, H', z1, z2, un, ok', rv, qv⟩ =>
    have qv : v = .bl true := qv
    subst qv
    cases (show u = Value.bool true from rv)
    have same : ∀ b o, (∀ p ∈ tb, p.2 ≠ b) → t0.heap.get? b = some o → t.heap.get? b = some o := by
      intro b o nt e
      match q : H b with
      | none => exact un.keep b o e q (fun z => by cases z) (by simp)
      | some u =>
        rcases hb.only b u q with ⟨p, hp, e1⟩ | ⟨_, _, ob, ys, rfl⟩
        · exact absurd e1 (nt p hp)
        · obtain ⟨g1, _⟩ := hb.ok b _ q
          obtain ⟨g2, _⟩ := ok' b _ (un.frzs b ob _ q)
          rw [g1] at e
          cases e
          exact g2
    have more : ∀ p ∈ tb, ∃ ar : Array Value, t.heap.get? p.2 = some { cls := .none, data := .fields ar } := by
      intro p hp
      obtain ⟨ar, z⟩ := un.tbls p.2 #[] (hb.tab p hp)
      exact ⟨_, ok' p.2 _ z⟩
    have two : ∀ b, (∃ p ∈ tb, p.2 = b) ∨ ∀ p ∈ tb, p.2 ≠ b := fun b => by
      by_cases z : ∃ p ∈ tb, p.2 = b
      · exact .inl z
      · exact .inr fun p hp e => z ⟨p, hp, e⟩
    refine ⟨rfl, ⟨?_, ?_⟩, z1, z2⟩
    · intro b o e
      rcases two b with ⟨p, hp, rfl⟩ | nt
      · obtain ⟨ar, ha⟩ := more p hp
        have e2 := (h.tabs p hp).symm.trans e
        cases e2
        exact .inr (.inl ⟨((h.heads p hp).tab (h.tabs p hp)).isCodeTable, rfl, #[], ar, rfl, by simpa using ha⟩)
      · exact .inl (same b o nt e)
    · intro b o e
      rcases two b with ⟨p, hp, rfl⟩ | nt
      · obtain ⟨ar, ha⟩ := more p hp
        exact ⟨_, ha⟩
      · exact ⟨o, same b o nt e⟩
end
end Gr

namespace Gx
open PySem PySem.Spec PyProof.Rows L2 GenW

/-- old objects are kept, the rest of the world too -/
structure Quiet (s s' : Shared) : Prop where
  os : s'.os = s.os
  bare : AllBare s'.gens
  keep : ∀ b o, s.heap.get? b = some o → s'.heap.get? b = some o

/-- at a yield: v is a truth; where it is b the consumer stops at once, else it wakes the generator again -/
def YB (a : Addr) (g : Nat) (b : Bool) (Out : Shared → Prop) : Protocol := fun _ _ v s kap =>
  s.heap.NoLimit ∧ s.heap.IsGen a g ∧ AllBare s.gens ∧ ∃ c, v = Value.bool c ∧
    (c = b → Out s) ∧ (c = !b → ∀ s', Quiet s s' → kap (.send .none) s')

def RB (Last : Shared → Prop) : GenEnd := fun _ _ r s => (r = .ok (.ret .none) ∨ r = .ok .next) ∧ Last s

section
variable {P : Program} {w : World} {A : Around}
theorem next_b {E : Value → Shared → Prop} {s : Shared} {a : Addr} {g n : Nat} {b : Bool} {Out Last : Shared → Prop} {gs : GenState} {Q : Option Value → Shared → Prop}
    (hh : A.handled = none) (hl : s.heap.NoLimit) (hd : A.depth < recursionLimit) (hg : s.heap.IsGen a g) (hgs : s.gens[g]? = some gs)
    (hgo : gs.Goes (model P w) A.in1 (RB Last) (YB a g b Out) n (.send .none) (s.setGen g .running))
    (hY : ∀ v s1 gs', g < s1.gens.size → gs'.bare = true → YB a g b Out (n - 1) (s.setGen g .running) v s1 (fun r' s2 => match n with
        | 0 => False
        | m + 1 => gs'.Goes (model P w) A.in1 (RB Last) (YB a g b Out) m r' s2) → Q (some v) (s1.setGen g gs'))
    (hP : ∀ s1, Last s1 → ∀ h', (∀ b o, s1.heap.get? b = some o → h'.get? b = some o) → Q none { s1.setGen g .finished with heap := h' }) :
    wpAny (model P w) A (pyNext (.ref a)) Q E s := by
  have hgl : g < s.gens.size := (Array.getElem?_eq_some_iff.mp hgs).1
  have conv : ∀ {x : GenState} {B : Around} {m : Nat} {r : Resume} {t : Shared}, x.Goes (model P w) B (RB Last) (YB a g b Out) m r t →
      x.Goes (model P w) B (fun n s₀ r s₁ => ((r = .ok (.ret .none) ∨ r = .ok .next) ∧ Last s₁) ∨ ∃ e, r = .error e ∧ False) (YB a g b Out) m r t := by
    intro x B m r t h
    have h2 : ∀ n s₀ r s, RB Last n s₀ r s → (((r = .ok (.ret .none) ∨ r = .ok .next) ∧ Last s) ∨ ∃ e, r = .error e ∧ False) := fun _ _ _ _ q => .inl q
    have h3 : ∀ n s₀ v s (kap kap' : Resume → Shared → Prop), (∀ r s', kap r s' → kap' r s') → YB a g b Out n s₀ v s kap → YB a g b Out n s₀ v s kap' := by
      rintro n s₀ v s kap kap' hk ⟨q1, q2, q3, c, q4, q5, q6⟩
      exact ⟨q1, q2, q3, c, q4, q5, fun e s' z => hk _ _ (q6 e s' z)⟩
    cases x with
    | fresh c => exact ⟨h.1, seg_imp h2 h3 m h.2⟩
    | suspended k l c p fs cl => exact seg_imp h2 h3 m h
    | running => exact h.elim
    | finished => exact h.elim
  have back : ∀ {x : GenState} {B : Around} {m : Nat} {r : Resume} {t : Shared}, x.Goes (model P w) B (fun n s₀ r s₁ => ((r = .ok (.ret .none) ∨ r = .ok .next) ∧ Last s₁) ∨ ∃ e, r = .error e ∧ False) (YB a g b Out) m r t →
      x.Goes (model P w) B (RB Last) (YB a g b Out) m r t := by
    intro x B m r t h
    have h2 : ∀ n (s₀ : Shared) r s, (((r = .ok (.ret .none) ∨ r = .ok .next) ∧ Last s) ∨ ∃ e, r = .error e ∧ False) → RB Last n s₀ r s := fun _ _ _ _ q => by
      rcases q with q | ⟨_, _, z⟩
      · exact q
      · exact z.elim
    have h3 : ∀ n s₀ v s (kap kap' : Resume → Shared → Prop), (∀ r s', kap r s' → kap' r s') → YB a g b Out n s₀ v s kap → YB a g b Out n s₀ v s kap' := by
      rintro n s₀ v s kap kap' hk ⟨q1, q2, q3, c, q4, q5, q6⟩
      exact ⟨q1, q2, q3, c, q4, q5, fun e s' z => hk _ _ (q6 e s' z)⟩
    cases x with
    | fresh c => exact ⟨h.1, seg_imp h2 h3 m h.2⟩
    | suspended k l c p fs cl => exact seg_imp h2 h3 m h
    | running => exact h.elim
    | finished => exact h.elim
  refine wpAny_gsz (n := g + 1) hgl ?_
  refine next_genG (Er := fun _ _ => False) (F := fun _ _ s1 => Last s1) hh hl hd hg hgs (conv hgo) (fun v s1 gs' hb hv => ?_) (fun s1 hp h' hk => ?_) fun e s1 he => he.elim
  · intro hsz
    have hsz1 : g < s1.gens.size := by
      have q : (s1.setGen g gs').gens.size = s1.gens.size := setGen_size _ _ _
      have hsz' : g + 1 ≤ (s1.setGen g gs').gens.size := hsz
      omega
    refine hY v s1 gs' hsz1 hb ?_
    obtain ⟨q1, q2, q3, c, q4, q5, q6⟩ := hv
    refine ⟨q1, q2, q3, c, q4, q5, fun e s' z => ?_⟩
    have q7 := q6 e s' z
    cases n with
    | zero => exact q7
    | succ m => exact back q7
  · intro _
    exact hP s1 hp h' hk

theorem quiet_set {s : Shared} {g : Nat} {x : GenState} (hb : AllBare s.gens) (hx : x.bare = true) : Quiet s (s.setGen g x) :=
  ⟨rfl, allBare_setGen hb hx, fun _ _ e => e⟩

/-- all(..): the loop -/
theorem all_loop {R : Result → Shared → Prop} {a : Addr} {g : Nat} {Out Last : Shared → Prop} (hh : A.handled = none) (hd : A.depth < recursionLimit)
    (hO : ∀ s s', Out s → Quiet s s' → R (.ok (.ret (.bool false))) s') (hL : ∀ s s', Last s → s'.os = s.os → (∃ x, s'.gens = (s.setGen g x).gens ∧ x.bare = true) → (∀ b o, s.heap.get? b = some o → s'.heap.get? b = some o) → R (.ok (.ret (.bool true))) s') :
    ∀ (n : Nat) (s : Shared), s.heap.IsGen a g → s.heap.NoLimit →
      (∃ gs, s.gens[g]? = some gs ∧ gs.Goes (model P w) A.in1.in1 (RB Last) (YB a g false Out) n (.send .none) (s.setGen g .running)) →
      codeAny (model P w) A (.builtin "all.loop" ⟨[.ref a], []⟩) R s := by
  intro n
  induction n with
  | zero =>
    rintro s hg hl ⟨gs, hgs, hgo⟩
    refine codeAny_builtin F.entry_all_loop ?_
    rw [Around.under_plainId F.plain_all_loop _]
    show wpAny _ A.in1 (pyNext (.ref a) >>= _) _ _ s
    refine wpAny_bind (next_b (A := A.in1) hh hl hd hg hgs hgo (fun v s1 gs' hsz hb hv => ?_) (fun s1 hp h' hk => ?_))
    · obtain ⟨_, _, q3, c, rfl, q5, q6⟩ := hv
      refine wpAny_bind (wpAny_holding (wpAny_truthy_bool ?_))
      refine wpAny_bind (wpAny_letGo ?_)
      cases c with
      | true => exact (q6 rfl s1 ⟨rfl, q3, fun _ _ e => e⟩).elim
      | false =>
        simp only [Bool.false_eq_true, if_false]
        exact wpAny_bind (wpAny_rule (wpAny_pure (hO _ _ (q5 rfl) (quiet_set q3 hb))))
    · refine wpAny_bind (wpAny_rule (wpAny_pure ?_))
      exact hL s1 _ hp rfl ⟨.finished, rfl, rfl⟩ hk
  | succ n ih =>
    rintro s hg hl ⟨gs, hgs, hgo⟩
    refine codeAny_builtin F.entry_all_loop ?_
    rw [Around.under_plainId F.plain_all_loop _]
    show wpAny _ A.in1 (pyNext (.ref a) >>= _) _ _ s
    refine wpAny_bind (next_b (A := A.in1) hh hl hd hg hgs hgo (fun v s1 gs' hsz hb hv => ?_) (fun s1 hp h' hk => ?_))
    · obtain ⟨q1, q2, q3, c, rfl, q5, q6⟩ := hv
      refine wpAny_bind (wpAny_holding (wpAny_truthy_bool ?_))
      refine wpAny_bind (wpAny_letGo ?_)
      cases c with
      | false =>
        simp only [Bool.false_eq_true, if_false]
        exact wpAny_bind (wpAny_rule (wpAny_pure (hO _ _ (q5 rfl) (quiet_set q3 hb))))
      | true =>
        simp only [if_true]
        refine wpAny_pure ⟨plainId_quiet F.plain_all_loop _, ih (s1.setGen g gs') q2 q1 ⟨gs', setGen_at hsz, ?_⟩⟩
        refine q6 rfl _ ⟨rfl, ?_, fun _ _ e => e⟩
        exact allBare_setGen (allBare_setGen q3 hb) rfl
    · refine wpAny_bind (wpAny_rule (wpAny_pure ?_))
      exact hL s1 _ hp rfl ⟨.finished, rfl, rfl⟩ hk
end
end Gx

namespace Gx
open PySem PySem.Spec PyProof.Rows L2 GenW

/-- the context of a generator expression's frame -/
abbrev gcx (X : Cx) (A : Around) (s : Shared) (H : Hp) (cenv : Env) (fp : List Addr) (pn : List (Addr × Obj)) : Cx :=
  { X with A := A.deeper cenv, s_0 := s, H_0 := H, env := cenv, outer := X.stack, stack := cenv :: X.stack, ex := fp, fn := fun _ => false, calm := true, pn := pn, xe := fun _ _ => False }

structure GScp (N : List Str) (sc scope : Scope) (own : List (Str × Nat)) : Prop where
  blk : BlkOk N sc scope own
  co : scope.isCoroutine = false
  cell : ∀ y ∈ scope.names, y.2 ≠ .cell
  dot : scope.names.lookup (".0" : Str) = some NameKind.local

theorem over_gen {A : Around} {elt tg iter : Expr} {ifs : List Expr} {scope : Scope} {pos : Pos} {it acc : Value} {cenv : Env} :
    A.over (.compLoop (.GeneratorExp elt [⟨tg, iter, ifs, 0⟩] scope pos) 0 it acc cenv) [] = A.deeper cenv := by
  rfl

section
variable {X : Cx} {pins : List (Addr × Obj)} {σ : L2.St} {H : Hp} {s : Shared}
theorem gen_inv {A : Around} {scope : Scope} {own : List (Str × Nat)} {fp : List Addr} {code : Value} {bi : Addr} {h' : Heap} {go : Obj} {g' : Array GenState} {d' : Drawn} {t' : Nat} {m : Str → Option Value}
    (I : Inv X pins σ H s) (hA : A.handled = none) (hF : A.frames = some X.stack) (S : GScp X.N X.env.scope scope own) (hN : X.N.Nodup)
    (hfp : ∀ b ∈ fp, FpOk X pins H b ∧ b < s.heap.objs.size) (hbi : bi = builtinsNs)
    (hn : h'.Ns s.heap.objs.size m) (hs : Heap.SameBut s.heap.objs.size (s.heap.push { cls := .type "frame", data := .dict #[] }) h')
    (hgo : ∀ v, go.data ≠ .cell v) (hg : AllBare g') (hp : ∀ h : Heap, (h.push go).get? h.objs.size = some go) :
    Inv (gcx X A s H (genEnv scope (cloFrom X.env.cells scope.names []) s.heap.objs.size code bi X.env) fp [(h'.objs.size, go)]) [] (wipe σ (own.map (·.2))) H
      { s with gens := g', toks := t', drawn := d', heap := h'.push go } := by
  have hsz : h'.objs.size = s.heap.objs.size + 1 := by rw [hs.1, Heap.size_push]
  have kp0 : ∀ b o, s.heap.get? b = some o → h'.get? b = some o := fun b o e => hs.extBut b o (Nat.ne_of_lt (Heap.lt_size e)) (Heap.get?_push_of_some _ e)
  have kp : ∀ b o, s.heap.get? b = some o → (h'.push go).get? b = some o := fun b o e => Heap.get?_push_of_some _ (kp0 b o e)
  have hfree : ∀ y ∈ scope.names, y.2 = .free → ∃ c, X.env.cells.lookup y.1 = some c := fun y hy e => by
    rcases S.blk.free y hy e with k | k
    · exact I.ok.has _ (.inl k)
    · exact I.ok.has _ (.inr k)
  have cm : ∀ {y c}, (cloFrom X.env.cells scope.names []).lookup y = some c → X.env.cells.lookup y = some c := fun {y c} hm => by
    rcases cloFrom_mem (PySem.mem_of_lookup hm) with q | ⟨h1, rfl⟩
    · cases q
    · obtain ⟨c, hc⟩ := hfree _ h1 rfl
      rw [hc]; rfl
  have ch : ∀ {y}, scope.names.lookup y = some .free → ∃ c, (cloFrom X.env.cells scope.names []).lookup y = some c := fun {y} hl =>
    mem_lookup (cloFrom_has (cells := X.env.cells) (acc := []) (PySem.mem_of_lookup hl))
  have hok : (gcx X A s H (genEnv scope (cloFrom X.env.cells scope.names []) s.heap.objs.size code bi X.env) fp [(h'.objs.size, go)]).Ok := by
    refine ⟨I.ok.mod, S.blk.kind, I.ok.glob, hbi, Nat.le_refl _, fun x y c e1 e2 => I.ok.inj x y c (cm e1) (cm e2), fun x hx => ?_, fun x c hf => (Bool.noConfusion hf), fun _ => hA, Around.frames_deeper hF, .inr ⟨rfl, rfl⟩,
      fun b hb => ⟨Nat.ne_of_lt (hfp b hb).2, fun x c e z => (hfp b hb).1.2.2.2.2.1 x c (cm e) z⟩, I.bs, Nat.le_trans I.ok.bsz I.sz, fun b o e hb => ?_, fun b hb z => ?_, I.stack, I.stkFree⟩
    · rcases hx with hx | hx
      · exact absurd rfl (S.cell _ (PySem.mem_of_lookup (show scope.names.lookup x = some .cell from hx)))
      · exact ch hx
    · rcases (hfp b hb).1.2.2.2.1 with z | z
      · exact I.ok.noex b o e z
      · exact absurd (Nat.lt_of_lt_of_le (Heap.lt_size (I.ok.bs b o e).1) z) (Nat.lt_irrefl _)
    · rcases List.mem_cons.mp (I.stkSub b z) with q | q
      · exact (hfp b hb).1.2.1 q
      · exact (hfp b hb).1.2.2.1 q
  have anew : H h'.objs.size = none := I.hok.fresh (by rw [hsz]; exact Nat.le_succ _)
  refine ⟨hok, rfl, hg, Un.kept kp, ⟨m, ?_, fun i x v e1 e2 e3 => ?_⟩, fun x c e => ?_, I.hok.fresh (Nat.le_refl _), fun x c e => I.freeC x c (cm e), fun p hpn => ?_, I.hok.kept kp, ?_⟩
  · obtain ⟨o, es, ep, q, r⟩ := hn
    exact ⟨o, es, ep, Heap.get?_push_of_some _ q, r⟩
  · obtain ⟨e4, e5⟩ := wipe_some e2
    have e3 : Vis scope x := e3
    have notown : scope.names.lookup x = some .local → False := fun hl => by
      rcases S.blk.own (x, .local) (PySem.mem_of_lookup hl) (.inl rfl) with q | q
      · obtain ⟨p, hp1, hp2⟩ := List.mem_map.mp q
        have hx := S.blk.ix p hp1
        have : p.2 = i := nodup_ix hN (by rw [hx, hp2]) e1
        exact e5 (List.mem_map.mpr ⟨p, hp1, this⟩)
      · exact q (List.mem_of_getElem? e1)
    rcases e3 with k | k | k
    · exact (notown k).elim
    · exact absurd rfl (S.cell _ (PySem.mem_of_lookup k))
    · have kk := S.blk.free (x, .free) (PySem.mem_of_lookup k) rfl
      obtain ⟨m0, hn0, hl0⟩ := I.loc
      obtain ⟨u, ru, lk⟩ := hl0 i x v e1 e4 (by rcases kk with q | q; exact .inr (.inl q); exact .inr (.inr q))
      refine ⟨u, ru, .inr ⟨.inr k, ?_⟩⟩
      obtain ⟨c, hc⟩ := ch k
      refine ⟨c, hc, ?_⟩
      rcases lk with ⟨q, _⟩ | ⟨_, c2, hc2, hcell⟩
      · have q2 : X.env.scope.names.lookup x = some .local := q
        rcases kk with z | z
        · rw [show X.env.scope.names.lookup x = some .cell from z] at q2; cases q2
        · rw [show X.env.scope.names.lookup x = some .free from z] at q2; cases q2
      · rw [cm hc] at hc2
        cases hc2
        obtain ⟨o, ho, hd⟩ := hcell
        exact ⟨o, kp _ _ ho, hd⟩
  · obtain ⟨v, o, ho, hd⟩ := I.cell x c (cm e)
    exact ⟨v, o, kp _ _ ho, hd⟩
  · have e : p = (h'.objs.size, go) := by simpa using hpn
    subst e
    refine ⟨hp h', anew, ?_, ?_, hgo⟩
    · show h'.objs.size ≠ s.heap.objs.size
      omega
    · intro z
      have hlt := (I.stack.mem z).2
      obtain ⟨o, ho, _⟩ := hlt
      have q : h'.objs.size < s.heap.objs.size := Heap.lt_size ho
      omega
  · rw [wipe_length]; exact I.len
end
end Gx

namespace Gx
open PySem PySem.Spec PyProof.Rows L2 GenW

section
variable {X : Cx} {pins : List (Addr × Obj)} {σ : L2.St}
/-- from the generator's frame back to the def's -/
theorem gen_back {A : Around} {s0 s : Shared} {H0 H : Hp} {cenv : Env} {fp : List Addr} {pn pp : List (Addr × Obj)} {τ : L2.St} (I : Inv X pins σ H0 s0)
    (hfp : ∀ b ∈ fp, FpOk X pins H0 b) (J : Inv (gcx X A s0 H0 cenv fp pn) pp τ H s) : Inv X pins σ H s :=
  I.call' (ch := fp) J.os J.base J.hok J.bare fun b hb => ⟨(hfp b hb).2.2.2.1, (hfp b hb).2.1, (hfp b hb).2.2.2.2.1, (hfp b hb).2.2.2.2.2⟩

theorem quiet_inv {s s' : Shared} {H : Hp} (I : Inv X pins σ H s) (q : Quiet s s') : Inv X pins σ H s' :=
  I.call' (ch := []) q.os (Un.kept q.keep) (I.hok.kept q.keep) q.bare fun b hb => by cases hb

/-- the generator's loop, each item a truth -/
theorem gen_seg {A : Around} {s0 : Shared} {H0 : Hp} {cenv : Env} {fp : List Addr} {a : Addr} {go : Obj} {gn : Nat} {bb : Bool} {elt tg iter : Expr} {ifs : List Expr} {scope : Scope} {pos : Pos}
    {it : Addr} {J : It} {tn : Nat → Heap → Prop} {gt : TG} {tt : TT} {te : TE} {vs : List Nat} {τ : L2.St} {W : Nat → Nat → Hp → Prop} {QE QO : Hp → Prop}
    (hco : cenv.scope.isCoroutine = false) (I0 : Inv X pins σ H0 s0) (hfp : ∀ b ∈ fp, FpOk X pins H0 b) (hlt : ∀ b ∈ fp, b < a) (isg : ∀ h : Heap, h.get? a = some go → h.IsGen a gn)
    (T : Turn X.prog X.w X.K tg J fp it tn)
    (pg : PG (gcx X A s0 H0 cenv fp [(a, go)]) tg gt) (pt : PTs (gcx X A s0 H0 cenv fp [(a, go)]) ifs tt) (pe : PE (gcx X A s0 H0 cenv fp [(a, go)]) elt te)
    (turn : ∀ i m H, W i m H → (J.stop i H ∧ QE H) ∨ (J.go i H ∧ ∃ Nx : Hp → Prop, (∀ H', Nx H' → ∃ m', m' < m ∧ W (i + 1) m' H') ∧ ∀ x H', J.yld i H x H' → gt x (wipe τ vs) H' fun σ2 H2 => wipe σ2 vs = wipe τ vs ∧ tt σ2 H2 fun b H3 =>
      if b = true then te σ2 H3 fun y H4 => ∃ c, y = V.bl c ∧ (c = bb → QO H4) ∧ (c = !bb → Nx H4) else Nx H3)) :
    ∀ (m n i : Nat) (s1 s : Shared) (H : Hp), m < n → W i m H → Inv (gcx X A s0 H0 cenv fp [(a, go)]) [] (wipe τ vs) H s → tn i s.heap → (∀ b ∈ fp, H b = none) →
      Seg (model X.prog X.w) A (RB fun s => ∃ H, Inv X pins σ H s ∧ QE H) (YB a gn bb fun s => ∃ H, Inv X pins σ H s ∧ QO H) n s1
        (.compLoop (.GeneratorExp elt [⟨tg, iter, ifs, 0⟩] scope pos) 0 (.ref it) .none cenv)
        ((model X.prog X.w).den (.compLoop (.GeneratorExp elt [⟨tg, iter, ifs, 0⟩] scope pos) 0 (.ref it) .none cenv)) [] s := by
  have stat : ∀ {σ' : L2.St} {H' : Hp} {s' : Shared}, Inv (gcx X A s0 H0 cenv fp [(a, go)]) [] σ' H' s' → (∀ b ∈ fp, H' b = none) → ∀ b ∈ fp, FpOk (gcx X A s0 H0 cenv fp [(a, go)]) [] H' b := fun {σ' H' s'} I' hn b hb =>
    ⟨hn b hb, (I'.ok.exf b hb).1, I'.ok.exfs b hb, .inl hb, fun x c e => (I'.ok.exf b hb).2 x c e, fun p hp => by
      have e : p = (a, go) := by simpa using hp
      subst e
      exact Nat.ne_of_gt (hlt b hb)⟩
  have isG : ∀ {pp : List (Addr × Obj)} {σ' : L2.St} {H' : Hp} {s' : Shared}, Inv (gcx X A s0 H0 cenv fp [(a, go)]) pp σ' H' s' → s'.heap.IsGen a gn := fun {pp σ' H' s'} I' =>
    isg _ (I'.pin (a, go) (List.mem_append_left _ (List.mem_singleton.mpr rfl))).1
  intro m
  induction m using Nat.strongRecOn with
  | ind m ih =>
  intro n i s1 s H hmn hW I st hnn
  show Seg _ A _ _ _ s1 _ ((compTurn (.GeneratorExp elt [⟨tg, iter, ifs, 0⟩] scope pos) 0 (.ref it) .none cenv).onRaise (leaving cenv)) [] s
  rw [compTurn_gen]
  rw [Sem.onRaise_eq_wrap]
  refine seg_bind_wrap (wpAny_standAt ?_)
  rcases turn i m H hW with ⟨stop, qe⟩ | ⟨go1, Nx, hNx, step⟩
  · have td := T.done (gcx X A s0 H0 cenv fp [(a, go)]) rfl rfl rfl rfl i [] s _ H (fun _ _ => False) I (stat I hnn) st stop
    refine seg_bind_wrap ?_
    rw [over_gen]
    refine thnF td fun r s6 hr => ?_
    obtain ⟨rfl, I6⟩ := hr
    exact seg_end (.ok .next) ⟨.inr rfl, H, gen_back I0 hfp I6, qe⟩
  · have ti := T.item (gcx X A s0 H0 cenv fp [(a, go)]) rfl rfl rfl rfl i [] s _ H (fun _ _ => False) I (stat I hnn) st go1
    refine seg_bind_wrap ?_
    rw [over_gen]
    refine thnF ti fun r s6 hr => ?_
    obtain ⟨u, rfl, h6⟩ := hr
    refine seg_bind_wrap ?_
    rw [over_gen]
    refine thnF h6 fun _ s7 h7 => ?_
    obtain ⟨x, H7, I7, r7, y7, st7, n7⟩ := h7
    have I7' := I7.pinned (stat I7 n7) (T.obj _ _ st7)
    refine seg_bind_wrap ?_
    rw [over_gen]
    refine thnF (pg.run _ s7 _ H7 x u _ I7' r7 (step x H7 y7)) fun _ s8 h8 => ?_
    obtain ⟨σ8, H8, I8, hw8, q8⟩ := h8
    refine seg_bind_wrap ?_
    rw [over_gen]
    refine thnF (pt.run _ s8 σ8 H8 _ I8 q8) fun b s9 h9 => ?_
    obtain ⟨H9, I9, q9⟩ := h9
    have fin : ∀ {s' : Shared} {H' : Hp}, Inv (gcx X A s0 H0 cenv fp [(a, go)]) ([] ++ pinsAt fp s7.heap) σ8 H' s' → Nx H' →
        ∃ m', m' < m ∧ W (i + 1) m' H' ∧ Inv (gcx X A s0 H0 cenv fp [(a, go)]) [] (wipe τ vs) H' s' ∧ tn (i + 1) s'.heap ∧ ∀ b ∈ fp, H' b = none := fun {s' H'} I' nx => by
      obtain ⟨m', hm, w'⟩ := hNx H' nx
      have pin' : ∀ b ∈ fp, ∀ o, s7.heap.get? b = some o → s'.heap.get? b = some o ∧ H' b = none := fun b hb o e =>
        let z := I'.pin (b, o) (List.mem_append_right _ (List.mem_append_right _ (mem_pinsAt hb e)))
        ⟨z.1, z.2.1⟩
      have hl8 : (wipe τ vs).length = σ8.length := by rw [← hw8, wipe_length]
      refine ⟨m', hm, w', (I'.unpinned (pins := [])).weak hl8 (fun j v e => by rw [← hw8] at e; exact (wipe_some e).1), T.keep _ _ _ st7 fun b hb o e => (pin' b hb o e).1, fun b hb => ?_⟩
      obtain ⟨o, e, _⟩ := T.obj _ _ st7 b hb
      exact (pin' b hb o e).2
    cases b with
    | false =>
      simp only [Bool.false_eq_true, if_false] at q9 ⊢
      obtain ⟨m', hm, w', I', st', n'⟩ := fin I9 q9
      exact seg_again rfl (ih m' hm n (i + 1) s1 _ _ (by omega) w' I' st' n')
    | true =>
      simp only [if_true] at q9 ⊢
      have hy : ∀ v, yieldOut cenv v = yieldValue v := fun v => by simp only [yieldOut, hco, Bool.false_eq_true, if_false]
      simp only [hy]
      rw [Sem.bind_eq_wrap', Sem.bind_eq_wrap', Sem.wrap_wrap, Sem.wrap_wrap]
      refine seg_wrap ?_
      rw [over_gen]
      refine thnF (pe.run _ s9 σ8 H9 _ I9 q9) fun y s10 h10 => ?_
      obtain ⟨yv, H10, I10, ry, c, rfl, hO, hC⟩ := h10
      have ey : y = Value.bool c := ry
      subst ey
      obtain ⟨n', rfl⟩ : ∃ n', n = n' + 1 := by
        exact ⟨n - 1, by omega⟩
      refine seg_at (seg_yield rfl rfl rfl ⟨I10.nolimit, isG I10, I10.bare, c, rfl, fun e => ⟨H10, gen_back I0 hfp I10, hO e⟩, fun e s2 hq => ?_⟩)
      obtain ⟨m', hm, w', I', st', nn'⟩ := fin I10 (hC e)
      have I2 := quiet_inv I' hq
      refine seg_again rfl (ih m' hm n' (i + 1) s2 s2 _ (by omega) w' I2 ?_ nn')
      exact T.keep _ _ _ st' fun b _ o e => hq.keep b o e
end
end Gx

namespace Gx
open PySem PySem.Spec PyProof.Rows L2 GenW Gr

def TabG (H : Hp) (P : Addr) : Prop := ∃ ps : Array Value, H P = some (.tbl ps) ∧ TriplesOk ps.toList
def Tabbed (P : Addr) (H H' : Hp) : Prop := TabG H' P ∧ ∀ b, b ≠ P → H' b = H b

/-- the reading of a generator expression whose items are truths; bb: the truth at which its consumer stops -/
def TurnB (J : It) (gt : TG) (tt : TT) (te : TE) (vs : List Nat) (σ : L2.St) (bb : Bool) (QE QO : Hp → Prop) (H0 : Hp) : Prop :=
  ∃ W : Nat → Nat → Hp → Prop, (∃ m, W 0 m H0) ∧ ∀ i m H, W i m H → (J.stop i H ∧ QE H) ∨ (J.go i H ∧ ∃ Nx : Hp → Prop, (∀ H', Nx H' → ∃ m', m' < m ∧ W (i + 1) m' H') ∧ ∀ x H', J.yld i H x H' → gt x (wipe σ vs) H' fun σ2 H2 => wipe σ2 vs = wipe σ vs ∧ tt σ2 H2 fun b H3 =>
    if b = true then te σ2 H3 fun y H4 => ∃ c, y = V.bl c ∧ (c = bb → QO H4) ∧ (c = !bb → Nx H4) else Nx H3)

section
variable {X : Cx} {pins : List (Addr × Obj)} {σ : L2.St} {H : Hp} {s : Shared}
theorem code_ok {c P : Addr} {gpos : Pos} {qn : Str} {scope : Scope} {ps : Array Value} {Q : Value → Shared → Prop} {E : Value → Shared → Prop}
    (I : Inv X pins σ H s) (TB : LamX.TabB X.base X.mg c P) (hcode : X.env.code = .ref c) (hT : H P = some (.tbl ps)) (ht : TriplesOk ps.toList)
    (h : ∀ code H' h' tk, Inv X pins σ H' { s with heap := h', toks := tk } → Tabbed P H H' → (∀ b o, b ≠ P → s.heap.get? b = some o → h'.get? b = some o) → s.heap.objs.size ≤ h'.objs.size → Q code { s with heap := h', toks := tk }) :
    wpAny (model X.prog X.w) X.A (genexprCode X.env gpos qn scope) Q E s := by
  have hPs : s.heap.get? P = some { cls := .none, data := .fields ps } := I.hok P _ hT
  have cd : PySem.W.CodeHd s.heap c P := TB.code.keeps fun b u e => I.bk b u e
  cases hf : codeAmong gpos ps.toList with
  | some cv =>
    refine wpAny_genexprCode_hit hcode (cd.code hPs ht) hf ?_
    exact h cv H s.heap s.toks I ⟨⟨ps, hT, ht⟩, fun _ _ => rfl⟩ (fun _ _ _ e => e) (Nat.le_refl _)
  | none =>
    refine wpAny_genexprCodeX hcode (cd.code hPs ht) (cd.tab hPs) hf fun c' h' tk hx hge hlt hco' _ htab' _ => ?_
    obtain ⟨o1, vs, f1, tf, fl, tg, inF, tx, ttt, op, _, _, _, _, _, _, _, _, _, htr, _⟩ := hco'
    have J := GxR.inv_tab (more := #[rawInt gpos.line, rawInt gpos.col, .ref c']) (h' := h') (g' := s.gens) (d' := s.drawn) (t' := tk) I hT (fun b o hb e => hx b o hb e) htab'.2 I.bare
    exact h _ _ h' tk J ⟨⟨_, upd_same, htr⟩, fun b hb => upd_ne hb⟩ (fun b o hb e => hx b o hb e) (Nat.le_trans hge (Nat.le_of_lt hlt))

theorem bltn_ok {c P : Addr} {Q : Addr → Shared → Prop} {E : Value → Shared → Prop} (I : Inv X pins σ H s) (TB : LamX.TabB X.base X.mg c P) (h : Q builtinsNs s) :
    wpAny (model X.prog X.w) X.A (builtinsFor X.env.globals X.env.builtins) Q E s := by
  obtain ⟨bm, ob, e1, e2, e3, e4, e5, e6, e7, e8⟩ := TB.bm
  exact wpAny_builtinsFor (m := X.mg) (by rw [I.ok.glob]; exact I.mod.glob.keeps I.bk) e1 e2 (I.bk _ _ e5) e6 e7 e8 h

theorem gen_made {c P : Addr} {elt tg iter : Expr} {ifs : List Expr} {scope : Scope} {gpos : Pos} {own : List (Str × Nat)} {wi : TI} {gt : TG} {tt : TT} {te : TE} {j : Nat} {bb : Bool} {Q' : Value → Shared → Prop} {QE QO : Hp → Prop}
    (hr : RoomG (j + 1) X.A) (hN : X.N.Nodup) (TB : LamX.TabB X.base X.mg c P) (hcode : X.env.code = .ref c) (S : GScp X.N X.env.scope scope own) (hi : PI X tg iter wi)
    (hg : ∀ (A : Around) (s : Shared) (H : Hp) (cl : List (Str × Addr)) (C : Addr) (code : Value) (fp : List Addr) (pn : List (Addr × Obj)), RoomG j (A.deeper (genEnv scope cl C code builtinsNs X.env)) → PG (gcx X A s H (genEnv scope cl C code builtinsNs X.env) fp pn) tg gt)
    (ht : ∀ (A : Around) (s : Shared) (H : Hp) (cl : List (Str × Addr)) (C : Addr) (code : Value) (fp : List Addr) (pn : List (Addr × Obj)), RoomG j (A.deeper (genEnv scope cl C code builtinsNs X.env)) → PTs (gcx X A s H (genEnv scope cl C code builtinsNs X.env) fp pn) ifs tt)
    (he : ∀ (A : Around) (s : Shared) (H : Hp) (cl : List (Str × Addr)) (C : Addr) (code : Value) (fp : List Addr) (pn : List (Addr × Obj)), RoomG j (A.deeper (genEnv scope cl C code builtinsNs X.env)) → PE (gcx X A s H (genEnv scope cl C code builtinsNs X.env) fp pn) elt te)
    (hs : ∀ v, genFold iter X.env v = pure v) (I : Inv X pins σ H s)
    (h : wi σ H fun J H1 => TabG H1 P ∧ ∀ H2, Tabbed P H1 H2 → TurnB J gt tt te (own.map (·.2)) σ bb QE QO H2)
    (hQ : ∀ a g s5, s5.heap.IsGen a g → s5.heap.NoLimit → AllBare s5.gens → (∃ gs, s5.gens[g]? = some gs ∧ ∀ A s', A.handled = none → A.frames = some X.stack → (∀ env, RoomG j (A.deeper env)) → Quiet s5 s' →
      ∃ n, gs.Goes (model X.prog X.w) A (RB fun s => ∃ H, Inv X pins σ H s ∧ QE H) (YB a g bb fun s => ∃ H, Inv X pins σ H s ∧ QO H) n (.send .none) s') → Q' (.ref a) s5) :
    wpAny (model X.prog X.w) X.A (eval (.GeneratorExp elt [⟨tg, iter, ifs, 0⟩] scope gpos) X.env) Q' X.xe s := by
  have hfree : ∀ y ∈ scope.names, y.2 = .free → ∃ c, X.env.cells.lookup y.1 = some c := fun y hy e => by
    rcases S.blk.free y hy e with k | k
    · exact I.ok.has _ (.inl k)
    · exact I.ok.has _ (.inr k)
  refine wpAny_GeneratorExp_make S.co (closure_ok hfree) S.cell S.dot S.blk.kind (by have := hr.dp; omega) ?_ hs
  refine thn (hi.run pins s σ H _ I h) fun xv s1 h1 => thn h1 fun itv s2 h2 => ?_
  obtain ⟨it, fp, tn, J, H2, rfl, I2, T, st2, f2, ⟨ps, hT, htr⟩, hR⟩ := h2
  refine ⟨I2.nolimit, ?_⟩
  refine code_ok I2 TB hcode hT htr fun code H3 h3 tk I3 hTb kp3 sz3 => ?_
  refine bltn_ok I3 TB ?_
  obtain ⟨W, ⟨m0, w0⟩, turn⟩ := hR H3 hTb
  -- the iterator's objects are no tables
  have nfpP : ∀ b ∈ fp, b ≠ P := fun b hb e => by
    have := (f2 b hb).1
    rw [e, hT] at this
    cases this
  have f3 : ∀ b ∈ fp, FpOk X pins H3 b := fun b hb => ⟨by rw [hTb.2 b (nfpP b hb)]; exact (f2 b hb).1, (f2 b hb).2⟩
  have st3 : tn 0 h3 := T.keep _ _ _ st2 fun b hb o e => kp3 b o (nfpP b hb) e
  have lt3 : ∀ b ∈ fp, b < h3.objs.size := fun b hb => by
    obtain ⟨o, e, _⟩ := T.obj _ _ st3 b hb
    exact Heap.lt_size e
  intro h4 hn4 hs4
  have sz4 : h4.objs.size = h3.objs.size + 1 := by rw [hs4.1]; exact Heap.size_push ..
  have kp4 : ∀ b o, h3.get? b = some o → h4.get? b = some o := fun b o e => hs4.extBut b o (Nat.ne_of_lt (Heap.lt_size e)) (Heap.get?_push_of_some _ e)
  refine hQ h4.objs.size s2.gens.size _ ⟨_, _, _, Heap.get?_push_size _ rfl, rfl, rfl, rfl⟩ ?_ (AllBare.push I2.bare rfl) ⟨_, Array.getElem?_push_size .., ?_⟩
  · exact I3.nolimit.keeps fun b o e => Heap.get?_push_of_some _ (kp4 b o e)
  intro A s' hA hF hRm hq
  refine ⟨m0 + 1, rfl, ?_⟩
  have I5 := gen_inv (code := code) (go := { cls := .type "generator", data := .fields #[.int s2.gens.size 0, .str "<genexpr>" (tk + 1), .str (X.env.qual ++ "<genexpr>") (tk + 1 + 1)] })
    (g' := s2.gens.push (.fresh (.compStart (.GeneratorExp elt [⟨tg, iter, ifs, 0⟩] scope gpos) 0 (.ref it) .none (genEnv scope (cloFrom X.env.cells scope.names []) h3.objs.size code builtinsNs X.env)))) (d' := s2.drawn) (t' := tk + 1 + 1 + 1)
    I3 hA hF S hN (fun b hb => ⟨f3 b hb, lt3 b hb⟩) rfl hn4 hs4 (fun v e => by cases e) (AllBare.push I2.bare rfl) (fun h => Heap.get?_push_size _ rfl)
  have I6 := quiet_inv I5 hq
  have st6 : tn 0 s'.heap := T.keep _ _ _ st3 fun b hb o e => hq.keep b o (Heap.get?_push_of_some _ (kp4 b o e))
  have loop := gen_seg (A := A) (elt := elt) (iter := iter) (scope := scope) (pos := gpos) (bb := bb) (gn := s2.gens.size) (QE := QE) (QO := QO) (τ := σ) (vs := own.map (·.2)) S.co I3 f3 (fun b hb => by rw [sz4]; exact Nat.lt_succ_of_lt (lt3 b hb)) (fun h e => ⟨_, _, _, e, rfl, rfl, rfl⟩) T
    (hg A _ _ _ _ code fp _ (hRm _)) (ht A _ _ _ _ code fp _ (hRm _)) (he A _ _ _ _ code fp _ (hRm _)) turn m0 (m0 + 1) 0 s' s' H3 (Nat.lt_succ_self _) w0 I6 st6 (fun b hb => (f3 b hb).1)
  show Seg _ A _ _ _ s' _ ((compStart (.GeneratorExp elt [⟨tg, iter, ifs, 0⟩] scope gpos) 0 (.ref it) .none _).onRaise (leaving _)) [] s'
  unfold compStart
  rw [Sem.onRaise_eq_wrap]
  show Seg _ A _ _ _ s' _ ((ask >>= _).wrap _ _ _ _) [] s'
  refine seg_bind_wrap (wpAny_askSetting ?_)
  split
  · exact seg_again rfl loop
  · refine seg_bind_wrap (wpAny_rule ?_)
    show Seg _ A _ _ _ s' _ ((standAt iter.pos >>= _).wrap _ _ _ _) [] s'
    exact seg_bind_wrap (wpAny_standAt (seg_bind_wrap (T.self _ 0 _ _ _ st6 (seg_again rfl loop))))

/-- all(e for x in xs if ..) -/
def tAllG (P : Addr) (wi : TI) (gt : TG) (tt : TT) (te : TE) (vs : List Nat) : TE := fun σ H Q => wi σ H fun J H1 => TabG H1 P ∧ ∀ H2, Tabbed P H1 H2 → TurnB J gt tt te vs σ false (fun H => Q (.bl true) H) (fun H => Q (.bl false) H) H2
end
end Gx

namespace Gx
open PySem PySem.Spec PyProof.Rows L2 GenW Gr
section
variable {X : Cx}
theorem room_gen {j : Nat} {A : Around} (r : RoomG (j + 1) A) (env : Env) : RoomG j (A.in1.in1.deeper env) :=
  ⟨⟨r.hd, by have := r.dp; show A.depth + 1 + 3 * j + 5 < _; omega, by have := r.un; show A.units + 1 + 1 + 3 + 16 * j + 200 < _; omega⟩, r.gd⟩

theorem call_allG {pins : List (Addr × Obj)} {σ : L2.St} {s : Shared} {a : Addr} {g : Nat} {QE QO : Hp → Prop} {j : Nat} {Q : VK} {gs : GenState}
    (hr : RoomG (j + 1) X.A) (hF : X.A.frames = some X.stack) (hg : s.heap.IsGen a g) (hl : s.heap.NoLimit) (hb : AllBare s.gens) (hgs : s.gens[g]? = some gs)
    (hgo : ∀ A s', A.handled = none → A.frames = some X.stack → (∀ env, RoomG j (A.deeper env)) → Quiet s s' →
      ∃ n, gs.Goes (model X.prog X.w) A (RB fun s => ∃ H, Inv X pins σ H s ∧ QE H) (YB a g false fun s => ∃ H, Inv X pins σ H s ∧ QO H) n (.send .none) s')
    (hE : ∀ H, QE H → Q (.bl true) H) (hO : ∀ H, QO H → Q (.bl false) H) :
    wpAny (model X.prog X.w) X.A (call (.builtin "all") [.ref a]) (EP X pins σ Q) X.xe s := by
  refine call_function_tree F.kind_all F.plain_all F.entry_all (F.args_all1 _) ?_
  unfold Builtin.«all»
  refine wpAny_bind (m := oneArg "all" _) (wpAny_pure ?_)
  refine wpAny_bind (wpAny_pyIter_gen hg ?_)
  obtain ⟨n, hn⟩ := hgo X.A.in1.in1 (s.setGen g .running) hr.hd hF (room_gen hr) (quiet_set hb rfl)
  refine wpAny_pure ⟨plainId_quiet F.plain_all_loop _, ?_⟩
  refine all_loop (A := X.A) (P := X.prog) (w := X.w) (g := g) hr.hd (by have := hr.dp; omega) (fun s1 s2 h q => ?_) (fun s1 s2 h os hgn k => ?_) n s hg hl ⟨gs, hgs, hn⟩
  · obtain ⟨H, I, q0⟩ := h
    exact ⟨.bl false, H, quiet_inv I q, rfl, hO H q0⟩
  · obtain ⟨H, I, q0⟩ := h
    obtain ⟨x, e, hx⟩ := hgn
    exact ⟨.bl true, H, quiet_inv I ⟨os, by rw [e]; exact allBare_setGen I.bare hx, k⟩, rfl, hE H q0⟩

/-- what a generator expression's parts must be, in every frame of it -/
structure GParts (X : Cx) (j : Nat) (scope : Scope) (tg : Expr) (ifs : List Expr) (elt : Expr) (gt : TG) (tt : TT) (te : TE) : Prop where
  g : ∀ (A : Around) (s : Shared) (H : Hp) (cl : List (Str × Addr)) (C : Addr) (code : Value) (fp : List Addr) (pn : List (Addr × Obj)), RoomG j (A.deeper (genEnv scope cl C code builtinsNs X.env)) → PG (gcx X A s H (genEnv scope cl C code builtinsNs X.env) fp pn) tg gt
  t : ∀ (A : Around) (s : Shared) (H : Hp) (cl : List (Str × Addr)) (C : Addr) (code : Value) (fp : List Addr) (pn : List (Addr × Obj)), RoomG j (A.deeper (genEnv scope cl C code builtinsNs X.env)) → PTs (gcx X A s H (genEnv scope cl C code builtinsNs X.env) fp pn) ifs tt
  e : ∀ (A : Around) (s : Shared) (H : Hp) (cl : List (Str × Addr)) (C : Addr) (code : Value) (fp : List Addr) (pn : List (Addr × Obj)), RoomG j (A.deeper (genEnv scope cl C code builtinsNs X.env)) → PE (gcx X A s H (genEnv scope cl C code builtinsNs X.env) fp pn) elt te

theorem pe_allG {c P : Addr} {elt tg iter : Expr} {ifs : List Expr} {scope : Scope} {gpos p pos : Pos} {own : List (Str × Nat)} {wi : TI} {gt : TG} {tt : TT} {te : TE} {j : Nat}
    (hr : RoomG (j + 1) X.A) (hgl : Gl X "all") (hm : X.mg "all" = none) (hN : X.N.Nodup) (TB : LamX.TabB X.base X.mg c P) (hcode : X.env.code = .ref c) (S : GScp X.N X.env.scope scope own) (hi : PI X tg iter wi)
    (hp : GParts X j scope tg ifs elt gt tt te) (hs : ∀ v, genFold iter X.env v = pure v)
    (he : starEach [.GeneratorExp elt [⟨tg, iter, ifs, 0⟩] scope gpos] X.env = (false, eval (.GeneratorExp elt [⟨tg, iter, ifs, 0⟩] scope gpos) X.env) :: starEach [] X.env := by rfl) :
    PE X (.Call (.Name "all" p) [.GeneratorExp elt [⟨tg, iter, ifs, 0⟩] scope gpos] [] pos) (tAllG P wi gt tt te (own.map (·.2))) := by
  refine ⟨fun pins s σ H Q I h => ?_⟩
  refine wpAny_Call_Name_kw (ld_blt I hgl hm boot_all ?_)
  refine PyProof.Rows.callWith_builtin1 ?_ he (by rfl)
  rw [he]
  show wpAny _ _ (spliced ((false, eval (.GeneratorExp elt [⟨tg, iter, ifs, 0⟩] scope gpos) X.env) :: backTo pos (starEach [] X.env))) _ _ s
  refine Calls.spliced_cons (gen_made hr hN TB hcode S hi hp.g hp.t hp.e hs I h fun a g s5 h1 h2 h3 h4 => ?_)
  obtain ⟨gs, h5, h6⟩ := h4
  refine Calls.spliced_nil ?_
  exact call_allG hr I.ok.frames h1 h2 h3 h5 h6 (fun _ z => z) (fun _ z => z)

end
end Gx

namespace Gx
open PySem PySem.Spec PyProof.Rows L2 GenW

/-- a consumer that puts all items into the list at S -/
def YL (a : Addr) (g : Nat) (S : Addr) : Protocol := fun _ _ v s kap =>
  s.heap.NoLimit ∧ s.heap.IsGen a g ∧ AllBare s.gens ∧ (∃ acc c, s.heap.get? S = some (lstObj acc c) ∧ acc.size < sizeLine) ∧ ∀ s', Slept S v s s' → kap (.send .none) s'

def TurnL (J : It) (gt : TG) (tt : TT) (te : TE) (vs : List Nat) (σ : L2.St) (QE : List V → Hp → Prop) (H0 : Hp) : Prop :=
  ∃ W : Nat → Nat → List V → Hp → Prop, (∃ m, W 0 m [] H0) ∧ ∀ i m ys H, W i m ys H → (J.stop i H ∧ QE ys H) ∨ (J.go i H ∧ ∃ Nx : List V → Hp → Prop, (∀ ys' H', Nx ys' H' → ∃ m', m' < m ∧ W (i + 1) m' ys' H') ∧ ∀ x H', J.yld i H x H' → gt x (wipe σ vs) H' fun σ2 H2 => wipe σ2 vs = wipe σ vs ∧ tt σ2 H2 fun b H3 =>
    if b = true then te σ2 H3 fun y H4 => ys.length < sizeLine ∧ Nx (ys ++ [y]) H4 else Nx ys H3)

/-- the end of a collecting run -/
def LastL (X : Cx) (pins : List (Addr × Obj)) (σ : L2.St) (S : Addr) (QE : List V → Hp → Prop) (s : Shared) : Prop :=
  ∃ ys acc c H, s.heap.get? S = some (lstObj acc c) ∧ Vals ys acc.toList ∧ Inv X pins σ H s ∧ H S = none ∧ QE ys H

section
variable {X : Cx} {pins : List (Addr × Obj)} {σ : L2.St}
theorem gen_segL {A : Around} {s0 : Shared} {H0 : Hp} {cenv : Env} {fp : List Addr} {a S : Addr} {go : Obj} {gn : Nat} {elt tg iter : Expr} {ifs : List Expr} {scope : Scope} {pos : Pos}
    {it : Addr} {J : It} {tn : Nat → Heap → Prop} {gt : TG} {tt : TT} {te : TE} {vs : List Nat} {τ : L2.St} {W : Nat → Nat → List V → Hp → Prop} {QE : List V → Hp → Prop}
    (hco : cenv.scope.isCoroutine = false) (I0 : Inv X pins σ H0 s0) (hfp : ∀ b ∈ fp, FpOk X pins H0 b) (hlt : ∀ b ∈ fp, b < a) (haS : a < S) (hap : Apart (gcx X A s0 H0 cenv fp [(a, go)]) S) (isg : ∀ h : Heap, h.get? a = some go → h.IsGen a gn)
    (T : Turn X.prog X.w X.K tg J fp it tn)
    (pg : PG (gcx X A s0 H0 cenv fp [(a, go)]) tg gt) (pt : PTs (gcx X A s0 H0 cenv fp [(a, go)]) ifs tt) (pe : PE (gcx X A s0 H0 cenv fp [(a, go)]) elt te)
    (turn : ∀ i m ys H, W i m ys H → (J.stop i H ∧ QE ys H) ∨ (J.go i H ∧ ∃ Nx : List V → Hp → Prop, (∀ ys' H', Nx ys' H' → ∃ m', m' < m ∧ W (i + 1) m' ys' H') ∧ ∀ x H', J.yld i H x H' → gt x (wipe τ vs) H' fun σ2 H2 => wipe σ2 vs = wipe τ vs ∧ tt σ2 H2 fun b H3 =>
      if b = true then te σ2 H3 fun y H4 => ys.length < sizeLine ∧ Nx (ys ++ [y]) H4 else Nx ys H3)) :
    ∀ (m n i : Nat) (ys : List V) (s1 s : Shared) (H : Hp), m < n → W i m ys H → GI (gcx X A s0 H0 cenv fp [(a, go)]) S [] ys (wipe τ vs) H s → tn i s.heap → (∀ b ∈ fp, H b = none) →
      Seg (model X.prog X.w) A (RB (LastL X pins σ S QE)) (YL a gn S) n s1
        (.compLoop (.GeneratorExp elt [⟨tg, iter, ifs, 0⟩] scope pos) 0 (.ref it) .none cenv)
        ((model X.prog X.w).den (.compLoop (.GeneratorExp elt [⟨tg, iter, ifs, 0⟩] scope pos) 0 (.ref it) .none cenv)) [] s := by
  have hpnS : ∀ p ∈ (gcx X A s0 H0 cenv fp [(a, go)]).pn, p.1 ≠ S := fun p hp => by
    have e : p = (a, go) := by simpa using hp
    subst e
    exact Nat.ne_of_lt haS
  have stat : ∀ {acc : Array Value} {c : Nat} {σ' : L2.St} {H' : Hp} {s' : Shared}, Inv (gcx X A s0 H0 cenv fp [(a, go)]) [(S, lstObj acc c)] σ' H' s' → (∀ b ∈ fp, H' b = none) → ∀ b ∈ fp, FpOk (gcx X A s0 H0 cenv fp [(a, go)]) [(S, lstObj acc c)] H' b := fun {acc c σ' H' s'} I' hn b hb =>
    ⟨hn b hb, (I'.ok.exf b hb).1, I'.ok.exfs b hb, .inl hb, fun x c e => (I'.ok.exf b hb).2 x c e, fun p hp => by
      have hlb := hlt b hb
      rcases List.mem_append.mp hp with z | z
      · have e : p = (a, go) := by simpa using z
        subst e
        exact Nat.ne_of_gt hlb
      · have e : p = (S, lstObj acc c) := by simpa using z
        subst e
        exact Nat.ne_of_gt (Nat.lt_trans hlb haS)⟩
  have isG : ∀ {pp : List (Addr × Obj)} {σ' : L2.St} {H' : Hp} {s' : Shared}, Inv (gcx X A s0 H0 cenv fp [(a, go)]) pp σ' H' s' → s'.heap.IsGen a gn := fun {pp σ' H' s'} I' =>
    isg _ (I'.pin (a, go) (List.mem_append_left _ (List.mem_singleton.mpr rfl))).1
  intro m
  induction m using Nat.strongRecOn with
  | ind m ih =>
  intro n i ys s1 s H hmn hW hI st hnn
  obtain ⟨acc, cc, rys, I⟩ := hI
  show Seg _ A _ _ _ s1 _ ((compTurn (.GeneratorExp elt [⟨tg, iter, ifs, 0⟩] scope pos) 0 (.ref it) .none cenv).onRaise (leaving cenv)) [] s
  rw [compTurn_gen]
  rw [Sem.onRaise_eq_wrap]
  refine seg_bind_wrap (wpAny_standAt ?_)
  rcases turn i m ys H hW with ⟨stop, qe⟩ | ⟨go1, Nx, hNx, step⟩
  · have td := T.done (gcx X A s0 H0 cenv fp [(a, go)]) rfl rfl rfl rfl i _ s _ H (fun _ _ => False) I (stat I hnn) st stop
    refine seg_bind_wrap ?_
    rw [over_gen]
    refine thnF td fun r s6 hr => ?_
    obtain ⟨rfl, I6⟩ := hr
    have pS := I6.pin (S, lstObj acc cc) (List.mem_append_right _ (List.mem_singleton.mpr rfl))
    exact seg_end (.ok .next) ⟨.inr rfl, ys, acc, cc, H, pS.1, rys, gen_back I0 hfp I6, pS.2.1, qe⟩
  · have ti := T.item (gcx X A s0 H0 cenv fp [(a, go)]) rfl rfl rfl rfl i _ s _ H (fun _ _ => False) I (stat I hnn) st go1
    refine seg_bind_wrap ?_
    rw [over_gen]
    refine thnF ti fun r s6 hr => ?_
    obtain ⟨u, rfl, h6⟩ := hr
    refine seg_bind_wrap ?_
    rw [over_gen]
    refine thnF h6 fun _ s7 h7 => ?_
    obtain ⟨x, H7, I7, r7, y7, st7, n7⟩ := h7
    have I7' := I7.pinned (stat I7 n7) (T.obj _ _ st7)
    refine seg_bind_wrap ?_
    rw [over_gen]
    refine thnF (pg.run _ s7 _ H7 x u _ I7' r7 (step x H7 y7)) fun _ s8 h8 => ?_
    obtain ⟨σ8, H8, I8, hw8, q8⟩ := h8
    refine seg_bind_wrap ?_
    rw [over_gen]
    refine thnF (pt.run _ s8 σ8 H8 _ I8 q8) fun b s9 h9 => ?_
    obtain ⟨H9, I9, q9⟩ := h9
    have hl8 : (wipe τ vs).length = σ8.length := by rw [← hw8, wipe_length]
    have fin : ∀ {s' : Shared} {H' : Hp}, Inv (gcx X A s0 H0 cenv fp [(a, go)]) ([(S, lstObj acc cc)] ++ pinsAt fp s7.heap) σ8 H' s' →
        Inv (gcx X A s0 H0 cenv fp [(a, go)]) [(S, lstObj acc cc)] (wipe τ vs) H' s' ∧ tn (i + 1) s'.heap ∧ ∀ b ∈ fp, H' b = none := fun {s' H'} I' => by
      have pin' : ∀ b ∈ fp, ∀ o, s7.heap.get? b = some o → s'.heap.get? b = some o ∧ H' b = none := fun b hb o e =>
        let z := I'.pin (b, o) (List.mem_append_right _ (List.mem_append_right _ (mem_pinsAt hb e)))
        ⟨z.1, z.2.1⟩
      refine ⟨I'.unpinned.weak hl8 (fun j v e => by rw [← hw8] at e; exact (wipe_some e).1), T.keep _ _ _ st7 fun b hb o e => (pin' b hb o e).1, fun b hb => ?_⟩
      obtain ⟨o, e, _⟩ := T.obj _ _ st7 b hb
      exact (pin' b hb o e).2
    cases b with
    | false =>
      simp only [Bool.false_eq_true, if_false] at q9 ⊢
      obtain ⟨m', hm, w'⟩ := hNx ys _ q9
      obtain ⟨I', st', n'⟩ := fin I9
      exact seg_again rfl (ih m' hm n (i + 1) ys s1 _ _ (by omega) w' ⟨acc, cc, rys, I'⟩ st' n')
    | true =>
      simp only [if_true] at q9 ⊢
      have hy : ∀ v, yieldOut cenv v = yieldValue v := fun v => by simp only [yieldOut, hco, Bool.false_eq_true, if_false]
      simp only [hy]
      rw [Sem.bind_eq_wrap', Sem.bind_eq_wrap', Sem.wrap_wrap, Sem.wrap_wrap]
      refine seg_wrap ?_
      rw [over_gen]
      refine thnF (pe.run _ s9 σ8 H9 _ I9 q9) fun y s10 h10 => ?_
      obtain ⟨yv, H10, I10, ry, hlen, hC⟩ := h10
      obtain ⟨n', rfl⟩ : ∃ n', n = n' + 1 := ⟨n - 1, by omega⟩
      obtain ⟨I', st', nn'⟩ := fin I10
      have pS := I'.pin (S, lstObj acc cc) (List.mem_append_right _ (List.mem_singleton.mpr rfl))
      have hsz : acc.size < sizeLine := by
        have e1 := rys.length
        have e2 : acc.toList.length = acc.size := by simp
        omega
      refine seg_at (seg_yield rfl rfl rfl ⟨I10.nolimit, isG I10, I10.bare, ⟨acc, cc, pS.1, hsz⟩, fun s2 hq => ?_⟩)
      obtain ⟨m', hm, w'⟩ := hNx _ _ hC
      have G2 := GI.woken (x := yv) hpnS (fun p hp => by cases hp) hap ⟨acc, cc, rys, I'⟩ ry hq
      refine seg_again rfl (ih m' hm n' (i + 1) (ys ++ [yv]) s2 s2 _ (by omega) w' G2 ?_ nn')
      refine T.keep _ _ _ st' fun b hb o e => hq.keep b o ?_ e
      exact Nat.ne_of_lt (Nat.lt_trans (hlt b hb) haS)
end
end Gx

namespace Gx
open PySem PySem.Spec PyProof.Rows L2 GenW Gr

section
variable {P : Program} {w : World} {A : Around}
theorem yl_mono {a S : Addr} {g : Nat} : ∀ n s₀ v s (kap kap' : Resume → Shared → Prop), (∀ r s', kap r s' → kap' r s') → YL a g S n s₀ v s kap → YL a g S n s₀ v s kap' := by
  rintro n s₀ v s kap kap' hk ⟨q1, q2, q3, q4, q5⟩
  exact ⟨q1, q2, q3, q4, fun s' z => hk _ _ (q5 s' z)⟩

theorem next_l {E : Value → Shared → Prop} {s : Shared} {a S : Addr} {g n : Nat} {Last : Shared → Prop} {gs : GenState} {Q : Option Value → Shared → Prop}
    (hh : A.handled = none) (hl : s.heap.NoLimit) (hd : A.depth < recursionLimit) (hg : s.heap.IsGen a g) (hgs : s.gens[g]? = some gs)
    (hgo : gs.Goes (model P w) A.in1 (RB Last) (YL a g S) n (.send .none) (s.setGen g .running))
    (hY : ∀ v s1 gs', g < s1.gens.size → gs'.bare = true → YL a g S (n - 1) (s.setGen g .running) v s1 (fun r' s2 => match n with
        | 0 => False
        | m + 1 => gs'.Goes (model P w) A.in1 (RB Last) (YL a g S) m r' s2) → Q (some v) (s1.setGen g gs'))
    (hP : ∀ s1, Last s1 → ∀ h', (∀ b o, s1.heap.get? b = some o → h'.get? b = some o) → Q none { s1.setGen g .finished with heap := h' }) :
    wpAny (model P w) A (pyNext (.ref a)) Q E s := by
  have hgl : g < s.gens.size := (Array.getElem?_eq_some_iff.mp hgs).1
  have h2 : ∀ n s₀ r s, RB Last n s₀ r s → (((r = .ok (.ret .none) ∨ r = .ok .next) ∧ Last s) ∨ ∃ e, r = .error e ∧ False) := fun _ _ _ _ q => .inl q
  have h2' : ∀ n (s₀ : Shared) r s, (((r = .ok (.ret .none) ∨ r = .ok .next) ∧ Last s) ∨ ∃ e, r = .error e ∧ False) → RB Last n s₀ r s := fun _ _ _ _ q => by
    rcases q with q | ⟨_, _, z⟩
    · exact q
    · exact z.elim
  have conv : ∀ {x : GenState} {B : Around} {m : Nat} {r : Resume} {t : Shared}, x.Goes (model P w) B (RB Last) (YL a g S) m r t →
      x.Goes (model P w) B (fun n s₀ r s₁ => ((r = .ok (.ret .none) ∨ r = .ok .next) ∧ Last s₁) ∨ ∃ e, r = .error e ∧ False) (YL a g S) m r t := by
    intro x B m r t h
    cases x with
    | fresh c => exact ⟨h.1, seg_imp h2 yl_mono m h.2⟩
    | suspended k l c p fs cl => exact seg_imp h2 yl_mono m h
    | running => exact h.elim
    | finished => exact h.elim
  have back : ∀ {x : GenState} {B : Around} {m : Nat} {r : Resume} {t : Shared}, x.Goes (model P w) B (fun n s₀ r s₁ => ((r = .ok (.ret .none) ∨ r = .ok .next) ∧ Last s₁) ∨ ∃ e, r = .error e ∧ False) (YL a g S) m r t →
      x.Goes (model P w) B (RB Last) (YL a g S) m r t := by
    intro x B m r t h
    cases x with
    | fresh c => exact ⟨h.1, seg_imp h2' yl_mono m h.2⟩
    | suspended k l c p fs cl => exact seg_imp h2' yl_mono m h
    | running => exact h.elim
    | finished => exact h.elim
  refine wpAny_gsz (n := g + 1) hgl ?_
  refine next_genG (Er := fun _ _ => False) (F := fun _ _ s1 => Last s1) hh hl hd hg hgs (conv hgo) (fun v s1 gs' hb hv => ?_) (fun s1 hp h' hk => ?_) fun e s1 he => he.elim
  · intro hsz
    have hsz1 : g < s1.gens.size := by
      have q : (s1.setGen g gs').gens.size = s1.gens.size := setGen_size _ _ _
      have hsz' : g + 1 ≤ (s1.setGen g gs').gens.size := hsz
      omega
    refine hY v s1 gs' hsz1 hb ?_
    obtain ⟨q1, q2, q3, q4, q5⟩ := hv
    refine ⟨q1, q2, q3, q4, fun s' z => ?_⟩
    have q7 := q5 s' z
    cases n with
    | zero => exact q7
    | succ m => exact back q7
  · intro _
    exact hP s1 hp h' hk

/-- the loop that fills the list at S -/
theorem fill_loop {R : Result → Shared → Prop} {a S : Addr} {g : Nat} {res : Value} {Last : Shared → Prop} (hh : A.handled = none) (hd : A.depth < recursionLimit) (hSa : S ≠ a) (hSc : S ≠ cStatics)
    (hL : ∀ s s', Last s → s'.os = s.os → (∃ x, s'.gens = (s.setGen g x).gens ∧ x.bare = true) → (∀ b o, s.heap.get? b = some o → s'.heap.get? b = some o) → R (.ok (.ret res)) s') :
    ∀ (n : Nat) (s : Shared), s.heap.IsGen a g → s.heap.NoLimit →
      (∃ gs, s.gens[g]? = some gs ∧ gs.Goes (model P w) A.in1.in1 (RB Last) (YL a g S) n (.send .none) (s.setGen g .running)) →
      codeAny (model P w) A (.builtin "list.extend.loop" ⟨[.ref S, .ref a, res], []⟩) R s := by
  intro n
  induction n with
  | zero =>
    rintro s hg hl ⟨gs, hgs, hgo⟩
    refine codeAny_builtin F.entry_extend_loop ?_
    rw [Around.under_plainId F.plain_extend_loop _]
    show wpAny _ A.in1 (pyNext (.ref a) >>= _) _ _ s
    refine wpAny_bind (next_l (A := A.in1) hh hl hd hg hgs hgo (fun v s1 gs' hsz hb hv => ?_) (fun s1 hp h' hk => ?_))
    · obtain ⟨_, _, q3, ⟨acc, c, q4, _⟩, q5⟩ := hv
      exact (q5 _ (Slept.push q4 q3)).elim
    · exact wpAny_pure (hL s1 _ hp rfl ⟨.finished, rfl, rfl⟩ hk)
  | succ n ih =>
    rintro s hg hl ⟨gs, hgs, hgo⟩
    refine codeAny_builtin F.entry_extend_loop ?_
    rw [Around.under_plainId F.plain_extend_loop _]
    show wpAny _ A.in1 (pyNext (.ref a) >>= _) _ _ s
    refine wpAny_bind (next_l (A := A.in1) hh hl hd hg hgs hgo (fun v s1 gs' hsz hb hv => ?_) (fun s1 hp h' hk => ?_))
    · obtain ⟨q1, q2, q3, ⟨acc, c, q4, hasz⟩, q5⟩ := hv
      show wpAny _ A.in1 (updateSeq S (·.push v) >>= _) _ _ _
      refine wpAny_bind ?_
      refine wpAny_updateSeq q4 rfl (wpAny_pure ⟨plainId_quiet F.plain_extend_loop _, ?_⟩) (Nat.le_of_lt hasz) (by show (acc.push v).size ≤ sizeLine + 1; rw [Array.size_push]; omega)
      have keep3 : ∀ b o, b ≠ S → s1.heap.get? b = some o → (s1.heap.update S (Obj.mapSeq (·.push v))).get? b = some o := fun b o hbS e => (Heap.get?_update_other _ _ (Ne.symm hbS)).trans e
      refine ih { s1.setGen g gs' with heap := s1.heap.update S (Obj.mapSeq (·.push v)) } ?_ ?_ ⟨gs', setGen_at hsz, ?_⟩
      · obtain ⟨o, nm, qn, ho, r⟩ := q2
        exact ⟨o, nm, qn, keep3 a o (Ne.symm hSa) ho, r⟩
      · obtain ⟨mc, hns, hnn⟩ := q1
        exact ⟨mc, hns.at' fun o e => keep3 _ o (Ne.symm hSc) e, hnn⟩
      · exact q5 _ (Slept.push q4 (allBare_setGen (s := s1.setGen g gs') (allBare_setGen q3 hb) rfl))
    · exact wpAny_pure (hL s1 _ hp rfl ⟨.finished, rfl, rfl⟩ hk)

/-- what a made generator hands over to a collecting consumer -/
def FeedL (X : Cx) (pins : List (Addr × Obj)) (σ : L2.St) (j : Nat) (QE : List V → Hp → Prop) (a : Addr) (g : Nat) (s5 : Shared) : Prop :=
  s5.heap.IsGen a g ∧ s5.heap.NoLimit ∧ AllBare s5.gens ∧ a < s5.heap.objs.size ∧ ∃ gs, s5.gens[g]? = some gs ∧ ∀ A S s' c, A.handled = none → A.frames = some X.stack → (∀ env, RoomG j (A.deeper env)) →
    s5.heap.objs.size ≤ S → s'.heap.get? S = some (lstObj #[] c) → Quiet s5 s' → ∃ n, gs.Goes (model X.prog X.w) A (RB (LastL X pins σ S QE)) (YL a g S) n (.send .none) s'

theorem collect_gen {X : Cx} {pins : List (Addr × Obj)} {σ : L2.St} {j : Nat} {QE : List V → Hp → Prop} {a : Addr} {g : Nat} {s : Shared} {E : Value → Shared → Prop} {Q : List Value → Shared → Prop}
    (hh : A.handled = none) (hd : A.depth < recursionLimit) (hF : A.frames = some X.stack) (hR : ∀ env, RoomG j (A.in1.in1.deeper env)) (f : FeedL X pins σ j QE a g s)
    (hQ : ∀ us ys H s', Vals ys us → Inv X pins σ H s' → QE ys H → Q us s') : wpAny (model X.prog X.w) A (collect (.ref a)) Q E s := by
  obtain ⟨hg, hl, hb, hlt, gs, hgs, hgo⟩ := f
  have hSa : s.heap.objs.size ≠ a := Nat.ne_of_gt hlt
  have hcl : cStatics < s.heap.objs.size := let ⟨_, hn, _⟩ := hl; hn.lt
  have hSc : s.heap.objs.size ≠ cStatics := Nat.ne_of_gt hcl
  unfold collect
  refine wpAny_bind (wpAny_runValue (codeAny_builtin F.entry_proto_collect ?_))
  rw [Around.under_plainId F.plain_proto_collect _]
  show wpAny _ A.in1 (newList [] >>= fun l => again (.builtin "list.__iadd__" ⟨[l, .ref a], []⟩)) _ _ s
  refine wpAny_bind (wpAny_newObj_type ?_)
  refine wpAny_pure ⟨plainId_quiet F.plain_list_iadd _, codeAny_builtin F.entry_list_iadd ?_⟩
  rw [Around.under_plainId F.plain_list_iadd _]
  have k1 : ∀ b o, s.heap.get? b = some o → (s.heap.push { cls := .type "list", data := .seq ([] : List Value).toArray }).get? b = some o := fun b o e => Heap.get?_push_of_some _ e
  have gty : ∀ {h : Heap}, (∀ b o, s.heap.get? b = some o → h.get? b = some o) → h.IsGen a g := fun {h} q => hg.keeps q
  show wpAny _ A.in1 (Builtin.List.listExtendWith (.ref s.heap.objs.size) (.ref a) (.ref s.heap.objs.size)) _ _ _
  unfold Builtin.List.listExtendWith
  refine wpAny_bind (wpAny_typeOf (Heap.IsGen.typeIs (s := { s with heap := _ }) (gty k1)) ?_)
  have h1 : Builtin.List.listSameRef (.ref s.heap.objs.size) (.ref a) = false := by simp [Builtin.List.listSameRef, hSa]
  have h2 : (Value.type "generator" == Value.type "list") = false := by decide
  have h3 : (Value.type "generator" == Value.type "tuple") = false := by decide
  simp only [h1, h2, h3, Bool.or_false, Bool.false_eq_true, if_false]
  refine wpAny_bind (wpAny_pyIter_gen (s := { s with heap := _ }) (gty k1) ?_)
  refine wpAny_bind (wpAny_holding ?_)
  unfold Builtin.List.listLengthHint
  refine wpAny_bind (wpAny_specialOf (Heap.IsGen.typeIs (s := { s with heap := _ }) (gty k1)) F.gen_no_len ?_)
  show wpAny _ A.in1 (specialOf (Value.ref a) (Str.ofString "__length_hint__") >>= _) _ _ _
  refine wpAny_bind (wpAny_specialOf (Heap.IsGen.typeIs (s := { s with heap := _ }) (gty k1)) F.gen_no_hint ?_)
  refine wpAny_pure ?_
  show wpAny _ A.in1 (rule "list.extend.makes-room" >>= fun _ => Builtin.List.listTouch (.ref s.heap.objs.size) >>= fun _ => again (.builtin "list.extend.loop" ⟨[.ref s.heap.objs.size, .ref a, .ref s.heap.objs.size], []⟩)) _ _ _
  refine wpAny_bind (wpAny_rule ?_)
  have hS1 : (s.heap.push { cls := .type "list", data := .seq ([] : List Value).toArray }).get? s.heap.objs.size = some { cls := .type "list", data := .seq ([] : List Value).toArray } := Heap.get?_push_size _ rfl
  refine wpAny_bind ?_
  show wpAny _ A.in1 (updateSeq s.heap.objs.size (·.push .none) >>= fun _ => updateSeq s.heap.objs.size (·.pop)) _ _ _
  refine wpAny_bind (wpAny_updateSeq hS1 rfl ?_)
  have hS2 := Heap.get?_update_self (Obj.mapSeq (·.push Value.none)) hS1 rfl
  refine wpAny_updateSeq (hz := by seq_fits) hS2 rfl ?_
  have hS3 := Heap.get?_update_self (Obj.mapSeq (·.pop)) hS2 rfl
  have up : ∀ (h : Heap) (f : Obj → Obj), (∀ b o, s.heap.get? b = some o → h.get? b = some o) → ∀ b o, s.heap.get? b = some o → (h.update s.heap.objs.size f).get? b = some o := fun h f q b o e =>
    (Heap.get?_update_other _ _ (Ne.symm (Nat.ne_of_lt (Heap.lt_size e)))).trans (q b o e)
  have k3 := up _ (Obj.mapSeq (·.pop)) (up _ (Obj.mapSeq (·.push Value.none)) k1)
  obtain ⟨n, hn⟩ := hgo A.in1.in1 s.heap.objs.size ({ s with heap := _ } |>.setGen g .running) _ hh hF hR (Nat.le_refl _) hS3 ⟨rfl, allBare_setGen (s := { s with heap := _ }) hb rfl, k3⟩
  refine wpAny_pure ⟨plainId_quiet F.plain_extend_loop _, ?_⟩
  refine fill_loop (P := X.prog) (w := X.w) (A := A) (g := g) (Last := LastL X pins σ s.heap.objs.size QE) hh hd hSa hSc (fun s1 s2 h os hgn k => ?_) n _ (gty k3) (hl.keeps k3) ⟨gs, hgs, hn⟩
  obtain ⟨ys, acc, c, H, e1, rv, I, _, q⟩ := h
  obtain ⟨x, eg, hx⟩ := hgn
  have I2 := quiet_inv I ⟨os, by rw [eg]; exact allBare_setGen I.bare hx, k⟩
  show wpAny _ A (load s.heap.objs.size >>= _) _ _ s2
  refine wpAny_bind (wpAny_load (k _ _ e1) ?_)
  exact wpAny_pure (hQ _ ys H s2 rv I2 q)
end
end Gx

namespace Gx
open PySem PySem.Spec PyProof.Rows L2 GenW Gr
section
variable {X : Cx} {pins : List (Addr × Obj)} {σ : L2.St} {H : Hp} {s : Shared}
theorem gen_madeL {c P : Addr} {elt tg iter : Expr} {ifs : List Expr} {scope : Scope} {gpos : Pos} {own : List (Str × Nat)} {wi : TI} {gt : TG} {tt : TT} {te : TE} {j : Nat} {Q' : Value → Shared → Prop} {QE : List V → Hp → Prop}
    (hr : RoomG (j + 1) X.A) (hN : X.N.Nodup) (TB : LamX.TabB X.base X.mg c P) (hcode : X.env.code = .ref c) (S : GScp X.N X.env.scope scope own) (hi : PI X tg iter wi)
    (hp : GParts X j scope tg ifs elt gt tt te) (hs : ∀ v, genFold iter X.env v = pure v) (I : Inv X pins σ H s)
    (h : wi σ H fun J H1 => TabG H1 P ∧ ∀ H2, Tabbed P H1 H2 → TurnL J gt tt te (own.map (·.2)) σ QE H2)
    (hQ : ∀ a g s5, FeedL X pins σ j QE a g s5 → Q' (.ref a) s5) :
    wpAny (model X.prog X.w) X.A (eval (.GeneratorExp elt [⟨tg, iter, ifs, 0⟩] scope gpos) X.env) Q' X.xe s := by
  have hfree : ∀ y ∈ scope.names, y.2 = .free → ∃ c, X.env.cells.lookup y.1 = some c := fun y hy e => by
    rcases S.blk.free y hy e with k | k
    · exact I.ok.has _ (.inl k)
    · exact I.ok.has _ (.inr k)
  refine wpAny_GeneratorExp_make S.co (closure_ok hfree) S.cell S.dot S.blk.kind (by have := hr.dp; omega) ?_ hs
  refine thn (hi.run pins s σ H _ I h) fun xv s1 h1 => thn h1 fun itv s2 h2 => ?_
  obtain ⟨it, fp, tn, J, H2, rfl, I2, T, st2, f2, ⟨ps, hT, htr⟩, hR⟩ := h2
  refine ⟨I2.nolimit, ?_⟩
  refine code_ok I2 TB hcode hT htr fun code H3 h3 tk I3 hTb kp3 sz3 => ?_
  refine bltn_ok I3 TB ?_
  obtain ⟨W, ⟨m0, w0⟩, turn⟩ := hR H3 hTb
  have nfpP : ∀ b ∈ fp, b ≠ P := fun b hb e => by
    have := (f2 b hb).1
    rw [e, hT] at this
    cases this
  have f3 : ∀ b ∈ fp, FpOk X pins H3 b := fun b hb => ⟨by rw [hTb.2 b (nfpP b hb)]; exact (f2 b hb).1, (f2 b hb).2⟩
  have st3 : tn 0 h3 := T.keep _ _ _ st2 fun b hb o e => kp3 b o (nfpP b hb) e
  have lt3 : ∀ b ∈ fp, b < h3.objs.size := fun b hb => by
    obtain ⟨o, e, _⟩ := T.obj _ _ st3 b hb
    exact Heap.lt_size e
  intro h4 hn4 hs4
  have sz4 : h4.objs.size = h3.objs.size + 1 := by rw [hs4.1]; exact Heap.size_push ..
  have kp4 : ∀ b o, h3.get? b = some o → h4.get? b = some o := fun b o e => hs4.extBut b o (Nat.ne_of_lt (Heap.lt_size e)) (Heap.get?_push_of_some _ e)
  refine hQ h4.objs.size s2.gens.size _ ⟨⟨_, _, _, Heap.get?_push_size _ rfl, rfl, rfl, rfl⟩, ?_, AllBare.push I2.bare rfl, ?_, _, Array.getElem?_push_size .., ?_⟩
  · exact I3.nolimit.keeps fun b o e => Heap.get?_push_of_some _ (kp4 b o e)
  · show h4.objs.size < (h4.push _).objs.size
    rw [Heap.size_push]
    exact Nat.lt_succ_self _
  intro A Sx s' cS hA hF hRm hSz hSe hq
  refine ⟨m0 + 1, rfl, ?_⟩
  have hSz' : h4.objs.size < Sx := by
    have q : (h4.push _).objs.size ≤ Sx := hSz
    rw [Heap.size_push] at q
    exact q
  have I5 := gen_inv (code := code) (go := { cls := .type "generator", data := .fields #[.int s2.gens.size 0, .str "<genexpr>" (tk + 1), .str (X.env.qual ++ "<genexpr>") (tk + 1 + 1)] })
    (g' := s2.gens.push (.fresh (.compStart (.GeneratorExp elt [⟨tg, iter, ifs, 0⟩] scope gpos) 0 (.ref it) .none (genEnv scope (cloFrom X.env.cells scope.names []) h3.objs.size code builtinsNs X.env)))) (d' := s2.drawn) (t' := tk + 1 + 1 + 1)
    I3 hA hF S hN (fun b hb => ⟨f3 b hb, lt3 b hb⟩) rfl hn4 hs4 (fun v e => by cases e) (AllBare.push I2.bare rfl) (fun h => Heap.get?_push_size _ rfl)
  have hS5 : (h4.push { cls := .type "generator", data := .fields #[.int s2.gens.size 0, .str "<genexpr>" (tk + 1), .str (X.env.qual ++ "<genexpr>") (tk + 1 + 1)] }).objs.size ≤ Sx := hSz
  have fr := I5.fpOk (H' := H3) (b := Sx) hS5 (I5.hok.fresh hS5)
  have I6 := quiet_inv I5 hq
  have G6 : GI _ Sx [] [] _ H3 s' := ⟨#[], cS, .nil, I6.pins_of (pins' := [(Sx, lstObj #[] cS)]) fun p hp => by
    have e : p = (Sx, lstObj #[] cS) := by simpa using hp
    subst e
    exact ⟨hSe, fr.1, fr.2.1, fr.2.2.1, fun v z => by cases z⟩⟩
  have st6 : tn 0 s'.heap := T.keep _ _ _ st3 fun b hb o e => hq.keep b o (Heap.get?_push_of_some _ (kp4 b o e))
  have hap : Apart (gcx X A _ H3 (genEnv scope (cloFrom X.env.cells scope.names []) h3.objs.size code builtinsNs X.env) fp [(h4.objs.size, { cls := .type "generator", data := .fields #[.int s2.gens.size 0, .str "<genexpr>" (tk + 1), .str (X.env.qual ++ "<genexpr>") (tk + 1 + 1)] })]) Sx :=
    ⟨by show h3.objs.size ≤ Sx; omega, Ne.symm fr.2.1 |> fun z => Ne.symm z, fr.2.2.2.2.1⟩
  have loop := gen_segL (A := A) (elt := elt) (iter := iter) (scope := scope) (pos := gpos) (gn := s2.gens.size) (QE := QE) (τ := σ) (vs := own.map (·.2)) (S := Sx) S.co I3 f3 (fun b hb => by rw [sz4]; exact Nat.lt_succ_of_lt (lt3 b hb)) hSz' hap (fun h e => ⟨_, _, _, e, rfl, rfl, rfl⟩) T
    (hp.g A _ _ _ _ code fp _ (hRm _)) (hp.t A _ _ _ _ code fp _ (hRm _)) (hp.e A _ _ _ _ code fp _ (hRm _)) turn m0 (m0 + 1) 0 [] s' s' H3 (Nat.lt_succ_self _) w0 G6 st6 (fun b hb => (f3 b hb).1)
  show Seg _ A _ _ _ s' _ ((compStart (.GeneratorExp elt [⟨tg, iter, ifs, 0⟩] scope gpos) 0 (.ref it) .none _).onRaise (leaving _)) [] s'
  unfold compStart
  rw [Sem.onRaise_eq_wrap]
  show Seg _ A _ _ _ s' _ ((ask >>= _).wrap _ _ _ _) [] s'
  refine seg_bind_wrap (wpAny_askSetting ?_)
  split
  · exact seg_again rfl loop
  · refine seg_bind_wrap (wpAny_rule ?_)
    show Seg _ A _ _ _ s' _ ((standAt iter.pos >>= _).wrap _ _ _ _) [] s'
    exact seg_bind_wrap (wpAny_standAt (seg_bind_wrap (T.self _ 0 _ _ _ st6 (seg_again rfl loop))))

end
end Gx

/-! ### tuples that are made: what stands there is known to the object -/
namespace Fz
open PySem PySem.Spec PyProof.Rows L2
/-- the object of a tuple laid anew -/
abbrev nt (us : List Value) : Obj := { cls := .type "tuple", data := .seq us.toArray }
abbrev fz (us : List Value) (xs : List V) : HO := .frz (nt us) (.tup xs)
/-- wherever it will stand -/
def At (H : Hp) (Q : VK) (xs : List V) : Prop := ∀ p us, H p = none → Q (.ref p) (upd H p (fz us xs))
section
variable {X : Cx} {pins : List (Addr × Obj)} {σ : L2.St} {H : Hp} {s : Shared} {Q : VK}
theorem put {xs : List V} {us : List Value} (I : Inv X pins σ H s) (r : Vals xs us) (z : xs.length ≤ sizeLine) (q : At H Q xs) (k : Nat := s.toks) :
    EP X pins σ Q (.ref s.heap.objs.size) { s with heap := s.heap.push (nt us), toks := k } := by
  have e : (s.heap.push (nt us)).get? s.heap.objs.size = some (nt us) := Heap.get?_push_size _ rfl
  have new : ObjOk X.prog X.w (upd H s.heap.objs.size (fz us xs)) (s.heap.push (nt us)) s.heap.objs.size (fz us xs) := ⟨e, z, us, r, _, e, rfl, _, rfl⟩
  exact ⟨.ref s.heap.objs.size, _, I.laid (t' := k) (fun _ _ g => Heap.get?_push_of_some _ g) (Nat.le_refl _) new, rfl, q _ us (I.hok.fresh (Nat.le_refl _))⟩
variable {es : List Expr} {pos : Pos} {t : TA}
def tTupF (t : TA) : TE := fun σ H Q => t σ H fun xs H1 => xs.length ≤ sizeLine ∧ At H1 Q xs
theorem pe_tupF {k : Nat} (h : PA X es t) : PE X (.Tuple es k pos) (tTupF t) := by
  constructor
  intro pins s σ H Q I hq
  refine wpAny_Tuple_spliced (thn (h.run pos pins s σ H _ I hq) fun us t1 w => ?_)
  obtain ⟨xs, H1, J, r, z, q⟩ := w
  exact ⟨r.length ▸ z, put J r z q⟩
/-- t + u -/
def rCat (K : PySem.W.Frag) : R2 := fun x y H Q => ∃ a b xs ys, x = .ref a ∧ y = .ref b ∧ SqT K H a xs ∧ SqT K H b ys ∧ xs.length + ys.length ≤ sizeLine ∧ (xs = [] → Q (.ref b) H) ∧ (ys = [] → Q (.ref a) H) ∧ At H Q (xs ++ ys)
theorem op_cat : OpR X (binaryOp .Add) (rCat X.K) := by
  rintro pins s σ H x y v u Q I rx ry ⟨a, b, xs, ys, rfl, rfl, ha, hb, hz, q0, q1, q2⟩
  cases rx; cases ry
  obtain ⟨us, ra, pa, _⟩ := I.tuple ha
  obtain ⟨ws, rb, pb, _⟩ := I.tuple hb
  have hz' : us.length + ws.length ≤ sizeLine := by rw [← ra.length, ← rb.length]; exact hz
  cases us with
  | nil =>
    have en := ra.nil_iff.mp rfl
    exact cat_tup0 pa pb ⟨.ref b, H, I, rfl, q0 en⟩
  | cons u0 us0 =>
    refine HT.cat_tup pa pb (fun e => by cases e) (fun e => ⟨.ref a, H, I, rfl, q1 (rb.nil_iff.mp e)⟩) (fun _ => ?_) hz'
    exact put I (ra.append rb) (by rw [List.length_append]; exact hz) q2
/-- t[lo:hi] -/
def rCut (K : PySem.W.Frag) : V → Option Int → Option Int → Hp → VK → Prop := fun x lo hi H Q => ∃ a xs, x = .ref a ∧ SqT K H a xs ∧ (HT.sIx xs.length 0 lo = 0 ∧ HT.sIx xs.length xs.length hi = xs.length → Q (.ref a) H) ∧ At H Q (cutV xs lo hi)
theorem sl_cut : SlR X (rCut X.K) := by
  rintro pins s σ H x v vl vu lo hi sl Q I rx hs pl pu ⟨a, xs, rfl, hx, q1, q2⟩
  cases rx
  obtain ⟨us, r, pt, hz⟩ := I.tuple hx
  have n : us.toArray.size = xs.length := List.size_toArray.trans r.length.symm
  refine ⟨"tuple", _, PyProof.Rows.slot_tuple_getitem.lookup, pt.typeIs, ?_⟩
  by_cases all : HT.sIx xs.length 0 lo = 0 ∧ HT.sIx xs.length xs.length hi = xs.length
  · exact getItem_tuple_whole pt hs pl pu (n.symm ▸ all) ⟨.ref a, H, I, rfl, q1 all⟩
  · refine HT.getItem_tuple_cut pt hs pl pu (n.symm ▸ all) ?_ (n.symm ▸ hz)
    have c := (r.drop (HT.sIx xs.length 0 lo)).take (HT.sIx xs.length xs.length hi - HT.sIx xs.length 0 lo)
    rw [n]
    exact put I c (Nat.le_trans (cutV_length xs lo hi) hz) q2
/-- tuple(l), tuple(t) -/
theorem call_tup : CallR X (.type "tuple") (fun xs H Q => ∃ p ys, xs = [.ref p] ∧ ((SqL X.K H p ys ∧ At H Q ys) ∨ (SqT X.K H p ys ∧ Q (.ref p) H))) := by
  rintro pins s σ H xs us Q I r ⟨p, ys, rfl, h⟩
  obtain ⟨_, rfl, rx⟩ := vals1 r
  cases rx
  rcases h with ⟨hq, q⟩ | ⟨hq, q⟩
  · obtain ⟨us, r', pl, hz⟩ := I.list hq
    refine call_tuple_list pl.isList (fun m kp => ?_) (by rw [List.size_toArray, ← r'.length]; exact hz)
    exact put (I.kept (t' := s.toks) kp) r' hz q
  · obtain ⟨us, r', pl, hz⟩ := I.tuple hq
    exact call_tuple_same pl ⟨.ref p, H, I, rfl, q⟩
end
/-! t * k -/
theorem mul_same (l : Addr) (items : Array Value) (n : Nat) (dd : Option Addr) (sl : Array (Option Value)) (x : Int) (u : Tok) (c0 : (decide (x < -(2 ^ 63)) || decide (x ≥ 2 ^ 63)) = false) (c1 : (items.isEmpty || x == 1) = true) :
    Meets (Builtin.«tuple.__mul__» ⟨[.ref l, .int x u], []⟩) fun _ R s => s.heap.get? l = some { cls := .type "tuple", dict := dd, data := .seq items n, slots := sl } ∧ R (.ok (.ret (Value.ref l))) s := by
  refine .of_wp fun prog w A R s ⟨hl, h⟩ => ?_
  rcases s with ⟨hp, g, d, tk, os⟩
  have f1 := AutoSeq1.idx_int
  wp_walk using wpAny_loadPart' hl
  refine wpAny_ite_false (decide_eq_false (by rw [c0]; exact Bool.false_ne_true)) ?_
  wp_walk using wpAny_loadPart' hl
  exact ⟨_, rfl, h⟩
theorem mul_none (l : Addr) (items : Array Value) (n : Nat) (dd : Option Addr) (sl : Array (Option Value)) (x : Int) (u : Tok) (c0 : (decide (x < -(2 ^ 63)) || decide (x ≥ 2 ^ 63)) = false) (c1 : (items.isEmpty || x == 1) = false) (c2 : (decide (x ≤ 0) || items.isEmpty) = true) :
    Meets (Builtin.«tuple.__mul__» ⟨[.ref l, .int x u], []⟩) fun _ R s => s.heap.get? l = some { cls := .type "tuple", dict := dd, data := .seq items n, slots := sl } ∧
      R (.ok (.ret (Value.ref s.heap.objs.size))) { s with heap := s.heap.push (nt []), toks := s.toks } := by
  refine .of_wp fun prog w A R s ⟨hl, h⟩ => ?_
  rcases s with ⟨hp, g, d, tk, os⟩
  have f1 := AutoSeq1.idx_int
  wp_walk using wpAny_loadPart' hl
  refine wpAny_ite_false (decide_eq_false (by rw [c0]; exact Bool.false_ne_true)) ?_
  wp_walk using wpAny_loadPart' hl
  exact ⟨_, rfl, h⟩
theorem mul_some (l : Addr) (items : Array Value) (n : Nat) (dd : Option Addr) (sl : Array (Option Value)) (x : Int) (u : Tok) (c0 : (decide (x < -(2 ^ 63)) || decide (x ≥ 2 ^ 63)) = false) (c1 : (items.isEmpty || x == 1) = false) (c2 : (decide (x ≤ 0) || items.isEmpty) = false)
    (k1 : ¬ ((items.size : Nat) : Int) * x > (2 ^ 63 - 1) / 8) (k2 : Builtin.Tuple.tupleTooMany (((items.size : Nat) : Int) * x) = false) (ys : List Value) (ey : List.foldl (fun a b => a ++ b) #[] (List.replicate x.toNat items) = ys.toArray) (k3 : ys.length ≤ sizeLine) :
    Meets (Builtin.«tuple.__mul__» ⟨[.ref l, .int x u], []⟩) fun _ R s => s.heap.get? l = some { cls := .type "tuple", dict := dd, data := .seq items n, slots := sl } ∧ R (.ok (.ret (Value.ref s.heap.objs.size))) { s with heap := s.heap.push (nt ys) } := by
  have T := tuple_mulW l items n dd sl x u c0 c1 c2 k1 k2 (by rw [ey, List.size_toArray]; exact k3)
  rw [ey] at T
  exact T
def rMul (K : PySem.W.Frag) : R2 := fun x y H Q => ∃ l k xs, x = .ref l ∧ y = .int k ∧ SqT K H l xs ∧ k ≤ 1000 ∧ -1000 ≤ k ∧ xs.length ≤ 1000 ∧ ((xs = [] ∨ k = 1) → Q (.ref l) H) ∧ At H Q (List.replicate k.toNat xs).flatten
theorem op_mul {X : Cx} : OpR X (binaryOp .Mult) (rMul X.K) := by
  rintro pins s σ H x y v u Q I rx ry ⟨l, k, xs, rfl, rfl, hT, h1, h2, hz, q1, q2⟩
  cases rx
  obtain ⟨t, rfl⟩ := ry
  obtain ⟨us, r, ⟨⟨cls, dd, data, sl⟩, ho, hc, n, hd⟩, hs⟩ := I.tuple hT
  simp only at hc hd
  subst hc hd
  have el : us.length = xs.length := r.length.symm
  have c0 : (decide (k < -(2 ^ 63)) || decide (k ≥ 2 ^ 63)) = false := by simp; omega
  have emp : us.toArray.isEmpty = decide (xs = []) := by
    cases us with
    | nil => rw [r.nil_iff.mp rfl]; rfl
    | cons a b =>
      have ne : xs ≠ [] := fun e => by rw [e] at el; cases el
      rw [decide_eq_false ne]; rfl
  refine wpAny_binaryOp_repeat_ref (T := "tuple") (U := "int") (by decide) ⟨_, ho, rfl⟩ (fun s' => typeIs_int s' k t) noFill_tuple_mul F.fills_int_mul F.slot_int_rmul repeat_tuple F.slot_int_index.lookup
    (call_meets F.slot_int_rmul (typeIs_int s k t) F.entry_int_rmul (F.args_int_rmul_2 _ _) (int_rmul_tuple k t l us.toArray n dd sl) ⟨ho, rfl, ⟨_, ho, rfl⟩, ?_⟩)
  by_cases b1 : xs = [] ∨ k = 1
  · refine call_meets F.slot_tuple_mul ⟨_, ho, rfl⟩ F.entry_tuple_mul (F.args_tuple_mul_2 _ _) (mul_same l us.toArray n dd sl k t c0 ?_) ⟨ho, .ref l, H, I, rfl, q1 b1⟩
    rw [emp]
    rcases b1 with e | e <;> simp [e]
  · have b2 : xs ≠ [] := fun e => b1 (.inl e)
    have b3 : k ≠ 1 := fun e => b1 (.inr e)
    have c1 : (us.toArray.isEmpty || k == 1) = false := by rw [emp]; simp [b2, b3]
    by_cases b4 : k ≤ 0
    · have e0 : k.toNat = 0 := by omega
      rw [e0] at q2
      exact call_meets F.slot_tuple_mul ⟨_, ho, rfl⟩ F.entry_tuple_mul (F.args_tuple_mul_2 _ _) (mul_none l us.toArray n dd sl k t c0 c1 (by simp [b4])) ⟨ho, put I .nil (Nat.zero_le _) q2⟩
    · have w := Nat.mul_le_mul (show k.toNat ≤ 1000 by omega) hz
      have fl : (List.replicate k.toNat us).flatten.length ≤ sizeLine := by
        rw [PyProof.Rows.lm_len_rep_flat, el, sizeLine_eq]
        omega
      have mk : ((us.toArray.size : Nat) : Int) * k ≤ 1000000 := by
        rw [List.size_toArray, el]
        have := Int.mul_le_mul_of_nonneg_right (show ((xs.length : Nat) : Int) ≤ 1000 by omega) (show 0 ≤ k by omega)
        omega
      refine call_meets F.slot_tuple_mul ⟨_, ho, rfl⟩ F.entry_tuple_mul (F.args_tuple_mul_2 _ _) (mul_some l us.toArray n dd sl k t c0 c1 ?_ (by omega) ?_ _ (size_rep us k.toNat) fl) ⟨ho, put I (r.rep k.toNat) ?_ q2⟩
      · rw [emp]; simp [b2, b4]
      · unfold Builtin.Tuple.tupleTooMany
        rw [sizeLine_eq]
        exact decide_eq_false (by omega)
      · rw [(r.rep k.toNat).length]; exact fl
end Fz

/-! ### dicts whose keys are tuples of whole numbers, truths and None -/
namespace Gk
open PySem PySem.Spec PyProof.Rows L2
/-- a part of a key: None, or a number (a truth is 0 or 1) -/
abbrev NK := Option Int
def lf : NK → Leaf
  | none => .none
  | some i => .num i
theorem lf_inj : ∀ {a b : NK}, lf a = lf b → a = b
  | none, none, _ => rfl
  | some i, some j, h => by injection h with h; rw [h]
  | none, some _, h => nomatch h
  | some _, none, h => nomatch h
def nH : NK → Int
  | none => reduceHash 0xFCA86420
  | some i => hashInt i
theorem nH_lf (w : World) (k : NK) : (lf k).key.hash w = nH k := by cases k <;> (unfold lf Leaf.key NestedKey.hash nH; rfl)
def numKind (P : Program) (w : World) : KeyKind P w NK where
  is := fun k v => Leaf.isOf (lf k) v
  hash := nH
  inj := fun v a b ha hb => lf_inj ((leafKind P w).inj v _ _ ha hb)
  byValue := fun _ _ h => Leaf.byValue h
  pyHash := fun {_ _ _ k _ _} hv h => pyHash_leaf hv (by rw [nH_lf]; exact h)
  eqBool := fun {_ _ _ a b _ _ Q} hu hv h => (leafKind P w).eqBool hu hv (by
    have e : decide (lf a = lf b) = decide (a = b) := by
      by_cases c : a = b
      · rw [decide_eq_true c, decide_eq_true (congrArg lf c)]
      · rw [decide_eq_false c, decide_eq_false fun q => c (lf_inj q)]
    rw [e]; exact h)
  «strs» := fun k x t v h => by cases k <;> exact absurd h Bool.false_ne_true
abbrev tK (P : Program) (w : World) := tupleKind (numKind P w)
/-- hash of a key -/
def kH (ks : List NK) : Int := reduceHash (Builtin.Tuple.tupleHashOf (ks.map nH))
def nkV : V → Option NK
  | .non => some none
  | .int i => some (some i)
  | .bl b => some (some (if b = true then 1 else 0))
  | _ => none
/-- the values that a key is made of -/
def KVs : List NK → List V → Prop := Paired fun k v => nkV v = some k
theorem nk_is {P : Program} {w : World} {k : NK} {v : V} {u : Value} (h : nkV v = some k) (r : RelV v u) : (numKind P w).is k u = true := by
  cases v <;> first | (cases h; done) | skip
  · cases h; cases (show u = Value.none from r); rfl
  · rename_i b; cases h; cases (show u = Value.bool b from r); cases b <;> rfl
  · cases h
    obtain ⟨t, rfl⟩ := (show ∃ t, u = Value.int _ t from r)
    exact decide_eq_true rfl
theorem items_nk {P : Program} {w : World} : ∀ {ks : List NK} {vs : List V} {us : List Value}, KVs ks vs → Vals vs us → ItemsAre (numKind P w) ks us
  | _, _, _, .nil, .nil => .nil
  | _, _, _, .cons h t, .cons r q => .cons (nk_is h r) (items_nk t q)
section
variable {X : Cx} {pins : List (Addr × Obj)} {σ : L2.St} {H : Hp} {s : Shared} {a b : Addr}
theorem key_at (I : Inv X pins σ H s) {ks : List NK} {vs : List V} (h : SqT X.K H b vs) (k : KVs ks vs) : (tK X.prog X.w).is s.heap ks b := by
  obtain ⟨its, r, ⟨o, e, c, n, d⟩, _⟩ := I.tuple h
  exact ⟨o, its.toArray, n, e, c, d, by simpa using items_nk k r⟩
/-- what the object is -/
abbrev Ent := List NK × Addr × V
def PE2 (p : Ent) (q : List NK × Addr × Value) : Prop := p.1 = q.1 ∧ p.2.1 = q.2.1 ∧ RelV p.2.2 q.2.2
def TD (a : Addr) (kvs : List Ent) (h : Heap) : Prop := kvs.length ≤ sizeLine ∧ (a == sysModules) = false ∧ ∃ xs : List (List NK × Addr × Value), Paired PE2 kvs xs ∧
  ∃ o es ep, h.get? a = some o ∧ o.ExactDict ∧ o.data = .dict es ep ∧ es.toList = xs.map (fun x => (⟨kH x.1, .ref x.2.1, x.2.2⟩ : DictEntry)) ∧ (xs.map (·.1)).Nodup
def dtO (a : Addr) (kvs : List Ent) : HO := .ext (TD a kvs)
theorem TD.at {kvs : List Ent} {h h' : Heap} (t : TD a kvs h) (k : ∀ o, h.get? a = some o → h'.get? a = some o) : TD a kvs h' := by
  obtain ⟨z, y, xs, r, o, es, ep, e, c⟩ := t
  exact ⟨z, y, xs, r, o, es, ep, k o e, c⟩
theorem dt_obj {P : Program} {w : World} {kvs : List Ent} {h : Heap} (t : TD a kvs h) : ObjOk P w H h a (dtO a kvs) := by
  refine ⟨t, ?_, fun h1 h2 t k => t.at k⟩
  obtain ⟨_, _, _, _, o, _, _, e, _⟩ := t
  exact ⟨o, e⟩
def Keys (K : PySem.W.Frag) (H : Hp) (kvs : List Ent) : Prop := ∀ x ∈ kvs, ∃ vs, SqT K H x.2.1 vs ∧ KVs x.1 vs
theorem dt_at (I : Inv X pins σ H s) {kvs : List Ent} (ha : H a = some (dtO a kvs)) (hk : Keys X.K H kvs) : kvs.length ≤ sizeLine ∧ (a == sysModules) = false ∧ ∃ xs, Paired PE2 kvs xs ∧ s.heap.DictOfH (tK X.prog X.w) a xs := by
  obtain ⟨⟨z, y, xs, r, o, es, ep, e, c1, c2, c3, c4⟩, _⟩ := (show ObjOk X.prog X.w H s.heap a (dtO a kvs) from I.hok a _ ha)
  refine ⟨z, y, xs, r, o, es, ep, e, c1, c2, c3, fun x hx => ?_, c4⟩
  have all : ∀ {l : List Ent} {m : List (List NK × Addr × Value)}, Paired PE2 l m → (∀ x ∈ l, ∃ vs, SqT X.K H x.2.1 vs ∧ KVs x.1 vs) → ∀ x ∈ m, (tK X.prog X.w).is s.heap x.1 x.2.1 := by
    intro l m q
    induction q with
    | nil => intro _ x hx; exact nomatch hx
    | @cons p q ps qs hq t ih =>
      intro hl x hx
      rcases List.mem_cons.mp hx with rfl | hx
      · obtain ⟨vs, h1, h2⟩ := hl p List.mem_cons_self
        obtain ⟨e1, e2, _⟩ := hq
        rw [← e1, ← e2]
        exact key_at I h1 h2
      · exact ih (fun z hz => hl z (List.mem_cons_of_mem _ hz)) x hx
  exact all r hk x hx
def valT (kvs : List Ent) (k : List NK) : Option V := (kvs.find? fun x => decide (x.1 = k)).map (·.2.2)
theorem dt_new (I : Inv X pins σ H s) : TD s.heap.objs.size [] (s.heap.push { cls := .type "dict", data := .dict #[] }) :=
  ⟨Nat.zero_le _, beq_eq_false_iff_ne.mpr (Ne.symm (Nat.ne_of_lt I.big)), [], .nil, _, #[], 0, Heap.get?_push_size _ rfl, ⟨rfl, rfl, rfl⟩, rfl, rfl, List.nodup_nil⟩
end
/-! ### isinstance of such a dict -/
def TyZ (K : PySem.W.Frag) (H : Hp) (x : V) (t : Value) : Prop := TyX K H x t ∨ ∃ (a : Addr) (kvs : List Ent), x = .ref a ∧ H a = some (dtO a kvs) ∧ t = .type "dict"
theorem kit_ofZ {X : Cx} {pins : List (Addr × Obj)} {σ : L2.St} {H : Hp} {s : Shared} {x : V} {u t : Value} (I : Inv X pins σ H s) (rx : RelV x u) (ty : TyZ X.K H x t) : ∃ P : Heap → Prop, PySem.W.KitX X.K u t P ∧ P s.heap ∧ u ≠ .builtin "__main__.__loader__#opaque" := by
  rcases ty with h | ⟨a, kvs, rfl, ha, rfl⟩
  · exact kit_of I rx h
  · cases (show u = Value.ref a from rx)
    obtain ⟨⟨_, _, _, _, o, _, _, e, c1, _⟩, _⟩ := (show ObjOk X.prog X.w H s.heap a (dtO a kvs) from I.hok a _ ha)
    exact ⟨_, PySem.W.kitx_dict, ⟨o, e, c1.1⟩, fun z => nomatch z⟩
end Gk

/-! ### dicts whose keys are tuples, of whole numbers, truths, None and tuples of such; classes -/
namespace Gn
open PySem PySem.Spec PyProof.Rows L2
mutual
/-- no text in it -/
def bare : NestedKey → Bool
  | .none => true
  | .num _ => true
  | .text _ => false
  | .tup ks => bares ks
def bares : List NestedKey → Bool
  | [] => true
  | k :: ks => bare k && bares ks
end
mutual
def nH : NestedKey → Int
  | .none => reduceHash 0xFCA86420
  | .num i => hashInt i
  | .text _ => 0
  | .tup ks => reduceHash (Builtin.Tuple.tupleHashOf (nHs ks))
def nHs : List NestedKey → List Int
  | [] => []
  | k :: ks => nH k :: nHs ks
end
mutual
theorem nH_eq (w : World) : ∀ k : NestedKey, bare k = true → k.hash w = nH k
  | .none, _ => by unfold NestedKey.hash nH; rfl
  | .num i, _ => by unfold NestedKey.hash nH; rfl
  | .text x, h => by unfold bare at h; cases h
  | .tup ks, h => by
    unfold bare at h
    unfold NestedKey.hash nH
    rw [nHs_eq w ks h]
theorem nHs_eq (w : World) : ∀ ks : List NestedKey, bares ks = true → NestedKey.hashes w ks = nHs ks
  | [], _ => by unfold NestedKey.hashes nHs; rfl
  | k :: ks, h => by
    unfold bares at h
    rw [Bool.and_eq_true] at h
    unfold NestedKey.hashes nHs
    rw [nH_eq w k h.1, nHs_eq w ks h.2]
end
mutual
/-- the values that a key is made of -/
def NV (K : PySem.W.Frag) (H : Hp) : NestedKey → V → Prop
  | .none, v => v = .non
  | .num i, v => Gk.nkV v = some (some i)
  | .text _, _ => False
  | .tup ks, v => ∃ a vs, v = .ref a ∧ SqT K H a vs ∧ NVs K H ks vs
def NVs (K : PySem.W.Frag) (H : Hp) : List NestedKey → List V → Prop
  | [], vs => vs = []
  | k :: ks, vs => ∃ v r, vs = v :: r ∧ NV K H k v ∧ NVs K H ks r
end
section
variable {X : Cx} {pins : List (Addr × Obj)} {σ : L2.St} {H : Hp} {s : Shared} {a b : Addr}
mutual
theorem nv_is (I : Inv X pins σ H s) : ∀ (k : NestedKey) (v : V) (u : Value), NV X.K H k v → RelV v u → NestedIs s.heap k u
  | .none, v, u, h, r => by
    unfold NV at h
    subst h
    cases (show u = Value.none from r)
    exact .none
  | .num i, v, u, h, r => by
    unfold NV at h
    cases v <;> first | (cases h; done) | skip
    · rename_i z
      cases h
      cases (show u = Value.bool z from r)
      exact .bool rfl
    · cases h
      obtain ⟨t, rfl⟩ := (show ∃ t, u = Value.int _ t from r)
      exact .int _ _
  | .text x, v, u, h, r => by unfold NV at h; exact h.elim
  | .tup ks, v, u, h, r => by
    unfold NV at h
    obtain ⟨c, vs, rfl, q, l⟩ := h
    cases (show u = Value.ref c from r)
    obtain ⟨its, rv, ⟨o, e, z, n, d⟩, _⟩ := I.tuple q
    exact .tup (vs := its.toArray) e z d (by simpa using nvs_is I ks vs its l rv)
theorem nvs_is (I : Inv X pins σ H s) : ∀ (ks : List NestedKey) (vs : List V) (us : List Value), NVs X.K H ks vs → Vals vs us → NestedAll s.heap ks us
  | [], vs, us, h, r => by
    unfold NVs at h
    subst h
    cases r
    exact .nil
  | k :: ks, vs, us, h, r => by
    unfold NVs at h
    obtain ⟨v, rs, rfl, q, l⟩ := h
    cases r with
    | cons r1 r2 => exact .cons (nv_is I k v _ q r1) (nvs_is I ks rs _ l r2)
end
/-- an entry: the key, its object, the value -/
abbrev Ent := NestedKey × Addr × V
def PE2 (p : Ent) (q : NestedKey × Addr × Value) : Prop := p.1 = q.1 ∧ p.2.1 = q.2.1 ∧ RelV p.2.2 q.2.2
def TD (a : Addr) (kvs : List Ent) (h : Heap) : Prop := kvs.length ≤ sizeLine ∧ (a == sysModules) = false ∧ ∃ xs : List (NestedKey × Addr × Value), Paired PE2 kvs xs ∧
  ∃ o es ep, h.get? a = some o ∧ o.ExactDict ∧ o.data = .dict es ep ∧ es.toList = xs.map (fun x => (⟨nH x.1, .ref x.2.1, x.2.2⟩ : DictEntry)) ∧ (xs.map (·.1)).Nodup
def dnO (a : Addr) (kvs : List Ent) : HO := .ext (TD a kvs)
theorem TD.at {kvs : List Ent} {h h' : Heap} (t : TD a kvs h) (k : ∀ o, h.get? a = some o → h'.get? a = some o) : TD a kvs h' := by
  obtain ⟨z, y, xs, r, o, es, ep, e, c⟩ := t
  exact ⟨z, y, xs, r, o, es, ep, k o e, c⟩
theorem dn_obj {P : Program} {w : World} {kvs : List Ent} {h : Heap} (t : TD a kvs h) : ObjOk P w H h a (dnO a kvs) := by
  refine ⟨t, ?_, fun h1 h2 t k => t.at k⟩
  obtain ⟨_, _, _, _, o, _, _, e, _⟩ := t
  exact ⟨o, e⟩
def Good (k : NestedKey) : Prop := bare k = true ∧ k.depth ≤ 8
def Keys (K : PySem.W.Frag) (H : Hp) (kvs : List Ent) : Prop := ∀ x ∈ kvs, NV K H x.1 (.ref x.2.1) ∧ Good x.1
abbrev nK (P : Program) (w : World) := nestedKind P w
theorem dn_at (I : Inv X pins σ H s) {kvs : List Ent} (ha : H a = some (dnO a kvs)) (hk : Keys X.K H kvs) : kvs.length ≤ sizeLine ∧ (a == sysModules) = false ∧ ∃ xs, Paired PE2 kvs xs ∧ s.heap.DictOfH (nK X.prog X.w) a xs ∧ (∀ x ∈ xs, bare x.1 = true) := by
  obtain ⟨⟨z, y, xs, r, o, es, ep, e, c1, c2, c3, c4⟩, _⟩ := (show ObjOk X.prog X.w H s.heap a (dnO a kvs) from I.hok a _ ha)
  have all : ∀ {l : List Ent} {m : List (NestedKey × Addr × Value)}, Paired PE2 l m → (∀ x ∈ l, NV X.K H x.1 (.ref x.2.1) ∧ Good x.1) → ∀ x ∈ m, (nK X.prog X.w).is s.heap x.1 x.2.1 ∧ bare x.1 = true := by
    intro l m q
    induction q with
    | nil => intro _ x hx; exact nomatch hx
    | @cons p q ps qs hq t ih =>
      intro hl x hx
      rcases List.mem_cons.mp hx with rfl | hx
      · obtain ⟨h1, h2, h3⟩ := hl p List.mem_cons_self
        obtain ⟨e1, e2, _⟩ := hq
        rw [← e1, ← e2]
        exact ⟨⟨nv_is I _ _ _ h1 rfl, h3⟩, h2⟩
      · exact ih (fun z hz => hl z (List.mem_cons_of_mem _ hz)) x hx
  have A := all r hk
  refine ⟨z, y, xs, r, ⟨o, es, ep, e, c1, c2, ?_, fun x hx => (A x hx).1, c4⟩, fun x hx => (A x hx).2⟩
  rw [c3]
  refine List.map_congr_left fun x hx => ?_
  show (⟨nH x.1, .ref x.2.1, x.2.2⟩ : DictEntry) = ⟨x.1.hash X.w, .ref x.2.1, x.2.2⟩
  rw [nH_eq X.w x.1 (A x hx).2]
theorem td_of {P : Program} {w : World} {kvs : List Ent} {h : Heap} {xs : List (NestedKey × Addr × Value)} (z : kvs.length ≤ sizeLine) (y : (a == sysModules) = false) (r : Paired PE2 kvs xs) (d : h.DictOfH (nK P w) a xs) (hb : ∀ x ∈ xs, bare x.1 = true) : TD a kvs h := by
  obtain ⟨o, es, ep, e, c1, c2, c3, c4, c5⟩ := d
  refine ⟨z, y, xs, r, o, es, ep, e, c1, c2, ?_, c5⟩
  rw [c3]
  refine List.map_congr_left fun x hx => ?_
  show (⟨x.1.hash w, .ref x.2.1, x.2.2⟩ : DictEntry) = ⟨nH x.1, .ref x.2.1, x.2.2⟩
  rw [nH_eq w x.1 (hb x hx)]
def valT (kvs : List Ent) (k : NestedKey) : Option V := (kvs.find? fun x => decide (x.1 = k)).map (·.2.2)
theorem key_at (I : Inv X pins σ H s) {k : NestedKey} (h : NV X.K H k (.ref b)) (g : Good k) : (nK X.prog X.w).is s.heap k b := ⟨nv_is I _ _ _ h rfl, g.2⟩
theorem val_any {kvs : List Ent} {k : NestedKey} : (valT kvs k).isSome = kvs.any fun x => decide (x.1 = k) := by
  unfold valT
  rw [Option.isSome_map]
  induction kvs with
  | nil => rfl
  | cons x kvs ih =>
    rw [List.find?_cons, List.any_cons]
    by_cases c : x.1 = k
    · rw [decide_eq_true c]; rfl
    · rw [decide_eq_false c, Bool.false_or]; exact ih
/-- len(d) -/
theorem dn_new (I : Inv X pins σ H s) : TD s.heap.objs.size [] (s.heap.push { cls := .type "dict", data := .dict #[] }) :=
  ⟨Nat.zero_le _, beq_eq_false_iff_ne.mpr (Ne.symm (Nat.ne_of_lt I.big)), [], .nil, _, #[], 0, Heap.get?_push_size _ rfl, ⟨rfl, rfl, rfl⟩, rfl, rfl, List.nodup_nil⟩
end
/-! ### classes -/
/-- an own class: how its instances are read and written, and that isinstance tells no built-in kind of them -/
structure ClsD (K : PySem.W.Frag) (C : Addr) : Prop where
  cl : Cls K C
  ha : PySem.W.findIn K (.ref C) "__class__" = some (some (.builtin "object.__class__"))
  hn : PySem.W.specialIn K (.builtin "object.__class__") "__get__" = some (some (.builtin "getset_descriptor.__get__"))
  ht : PySem.W.takesIn K (.builtin "object.__class__") = some true
  hm : PySem.W.mroIn K C (.type "object") = some true
  k1 : PySem.W.kitOne K (.ref C) (.type "bool") = some false
  k2 : PySem.W.kitOne K (.ref C) (.type "int") = some false
  k3 : PySem.W.kitOne K (.ref C) (.type "str") = some false
  k4 : PySem.W.kitOne K (.ref C) (.type "tuple") = some false
  k5 : PySem.W.kitOne K (.ref C) (.type "list") = some false
  k6 : PySem.W.kitOne K (.ref C) (.type "dict") = some false
/-! ### isinstance -/
/-- a refusal that was caught and kept: an object of the class C -/
def exV (C a : Addr) : HO := .ext fun h => ∃ (oe : Obj) (vs : Array Value), h.get? a = some oe ∧ Zc (.ref C) none oe ∧ oe.data = .fields vs
/-- an own class of refusals, as isinstance asks it -/
structure ExcD (K : PySem.W.Frag) (C : Addr) : Prop where
  e : L2.ExcC K C
  k1 : PySem.W.kitOne K (.ref C) (.type "bool") = some false
  k2 : PySem.W.kitOne K (.ref C) (.type "int") = some false
  k3 : PySem.W.kitOne K (.ref C) (.type "str") = some false
  k4 : PySem.W.kitOne K (.ref C) (.type "tuple") = some false
  k5 : PySem.W.kitOne K (.ref C) (.type "list") = some false
  k6 : PySem.W.kitOne K (.ref C) (.type "dict") = some false
def TyW (K : PySem.W.Frag) (H : Hp) (x : V) (t : Value) : Prop := Gk.TyZ K H x t ∨ (∃ (a : Addr) (kvs : List Ent), x = .ref a ∧ H a = some (dnO a kvs) ∧ t = .type "dict") ∨ ∃ (a C : Addr), x = .ref a ∧ H a = some (exV C a) ∧ L2.ExcC K C ∧ t = .ref C
theorem kit_ofW {X : Cx} {pins : List (Addr × Obj)} {σ : L2.St} {H : Hp} {s : Shared} {x : V} {u t : Value} (I : Inv X pins σ H s) (rx : RelV x u) (ty : TyW X.K H x t) : ∃ P : Heap → Prop, PySem.W.KitX X.K u t P ∧ P s.heap ∧ u ≠ .builtin "__main__.__loader__#opaque" := by
  rcases ty with h | ⟨a, kvs, rfl, ha, rfl⟩ | ⟨a, C, rfl, ha, F, rfl⟩
  · exact Gk.kit_ofZ I rx h
  · cases (show u = Value.ref a from rx)
    obtain ⟨⟨_, _, _, _, o, _, _, e, c1, _⟩, _⟩ := (show ObjOk X.prog X.w H s.heap a (dnO a kvs) from I.hok a _ ha)
    exact ⟨_, PySem.W.kitx_dict, ⟨o, e, c1.1⟩, fun z => nomatch z⟩
  · cases (show u = Value.ref a from rx)
    obtain ⟨⟨oe, vs, h1, h2, h3⟩, _⟩ := (show ObjOk X.prog X.w H s.heap a (exV C a) from I.hok a _ ha)
    refine ⟨_, PySem.W.handS_kitx_exc (ox := oe) F.hg F.hk F.hs F.hd F.ha F.hn F.ht F.hm, ?_, fun z => nomatch z⟩
    obtain ⟨q1, q2⟩ := h2
    exact ⟨h1, q1, by show (match oe.data with | .cls _ => false | _ => true) = true; rw [h3], by rw [q2]; exact trivial⟩
def rIsiW (K : PySem.W.Frag) : List V → Hp → VK → Prop := fun xs H Q => ∃ (x c : V) (t u : Value) (b : Bool), xs = [x, c] ∧ ClsV c u ∧ TyW K H x t ∧ PySem.W.kitOne K t u = some b ∧ Q (.bl b) H
def rIsiV (K : PySem.W.Frag) : List V → Hp → VK → Prop := fun xs H Q => ∃ (x : V) (tp : Addr) (cs : List V) (t : Value) (us : List Value) (b : Bool), xs = [x, .ref tp] ∧ H tp = some (.tup cs) ∧ Paired ClsV cs us ∧ TyW K H x t ∧ PySem.W.kitAny K t us = some b ∧ Q (.bl b) H
theorem call_isiW {X : Cx} : CallR X (.builtin "isinstance") (rIsiW X.K) := by
  intro pins s σ H xs us Q I r h
  obtain ⟨x, c, t, u, b, rfl, k, ty, e, q⟩ := h
  obtain ⟨u1, u2, rfl, r1, r2⟩ := vals2 r
  have e2 := k.eq r2
  subst e2
  obtain ⟨P, Z, p, hx⟩ := kit_ofW I r1 ty
  exact PySem.W.kia_one Z I.kIn p e hx fun tk => ⟨.bl b, H, I.tok tk, rfl, q⟩
theorem call_isiV {X : Cx} : CallR X (.builtin "isinstance") (rIsiV X.K) := by
  intro pins s σ H xs us Q I r h
  obtain ⟨x, tp, cs, t, ws, b, rfl, hT, k, ty, e, q⟩ := h
  obtain ⟨u1, u2, rfl, r1, r2⟩ := vals2 r
  cases (show u2 = Value.ref tp from r2)
  obtain ⟨P, Z, p, hx⟩ := kit_ofW I r1 ty
  obtain ⟨_, its, rv, o, h1, h2, n, h3⟩ := (show ObjOk X.prog X.w H s.heap tp (.tup cs) from I.hok tp _ hT)
  have e3 := ClsV.all k rv
  subst e3
  obtain ⟨oc, od, dt, sl⟩ := o
  simp only at h2 h3
  subst h2 h3
  exact PySem.W.kia_tup Z I.kIn p h1 e hx fun tk => ⟨.bl b, H, I.tok tk, rfl, q⟩
end Gn

namespace Dv
open PySem PySem.Spec PyProof.Rows L2

/-- plain data: tuples by value, objects that change by their number in the store -/
inductive D where
  | non | bl (b : Bool) | int (i : Int) | str (x : Str) | tup (xs : List D) | ref (i : Nat)
/-- what stands in the store: a list (w: it may be written), a dict with keys ints and texts, a dict whose keys are tuples -/
inductive O where
  | lst (w : Bool) (xs : List D) | dk (kvs : List (Key × D)) | dt (kvs : List (List Gk.NK × D))
  /-- a dict whose keys are tuples of any depth; an instance of the own class of this name -/
  | dn (kvs : List (D × D)) | ob (c : Str) (fs : List (Str × D))
  /-- a refusal that was kept: its class, by name and number -/
  | xc (x : Str) (j : Nat)
abbrev Sto := List O

/-- a tuple that has no dict of its own: made by the program (its object is known), or the module's -/
def SqN (K : PySem.W.Frag) (H : Hp) (a : Addr) (xs : List V) : Prop :=
  (∃ o : Obj, H a = some (.frz o (.tup xs)) ∧ o.cls = .type "tuple" ∧ o.dict = none) ∨
    ∃ (o : Obj) (its : Array Value) (n : Nat), K.lookup a = some o ∧ o.cls = .type "tuple" ∧ o.dict = none ∧ o.data = .seq its n ∧ its.size ≤ sizeLine ∧ Vals xs its.toList
theorem SqN.t {K : PySem.W.Frag} {H : Hp} {a : Addr} {xs : List V} (h : SqN K H a xs) : SqT K H a xs := by
  rcases h with ⟨o, h, _⟩ | ⟨o, its, n, h1, h2, _, h3, h4, h5⟩
  · exact .inl (.inr ⟨o, h⟩)
  · exact .inr ⟨o, its, n, h1, h2, h3, h4, h5⟩
mutual
def Rep (K : PySem.W.Frag) (ι : List Addr) (H : Hp) : D → V → Prop
  | .non, v => v = .non
  | .bl b, v => v = .bl b
  | .int i, v => v = .int i
  | .str x, v => v = .str x
  | .tup ds, v => ∃ a vs, v = .ref a ∧ SqN K H a vs ∧ RepL K ι H ds vs
  | .ref i, v => ∃ a, v = .ref a ∧ ι[i]? = some a
def RepL (K : PySem.W.Frag) (ι : List Addr) (H : Hp) : List D → List V → Prop
  | [], vs => vs = []
  | d :: ds, vs => ∃ v r, vs = v :: r ∧ Rep K ι H d v ∧ RepL K ι H ds r
end

/-- a later heap: numbers keep their addresses, tuples and locked things stay -/
structure Le (ι : List Addr) (H : Hp) (ι' : List Addr) (H' : Hp) : Prop where
  ix : ∀ (i : Nat) a, ι[i]? = some a → ι'[i]? = some a
  tup : ∀ a vs, H a = some (.tup vs) → H' a = some (.tup vs)
  frz : ∀ a o u, H a = some (.frz o u) → H' a = some (.frz o u)
theorem Le.refl (ι : List Addr) (H : Hp) : Le ι H ι H := ⟨fun _ _ h => h, fun _ _ h => h, fun _ _ _ h => h⟩
theorem Le.trans {ι ι1 ι2 : List Addr} {H H1 H2 : Hp} (a : Le ι H ι1 H1) (b : Le ι1 H1 ι2 H2) : Le ι H ι2 H2 :=
  ⟨fun i x h => b.ix i x (a.ix i x h), fun x v h => b.tup x v (a.tup x v h), fun x o u h => b.frz x o u (a.frz x o u h)⟩
theorem Le.sq {K : PySem.W.Frag} {ι ι' : List Addr} {H H' : Hp} {a : Addr} {vs : List V} (l : Le ι H ι' H') (h : SqT K H a vs) : SqT K H' a vs := by
  rcases h with (h | ⟨o, h⟩) | h
  · exact .inl (.inl (l.tup _ _ h))
  · exact .inl (.inr ⟨o, l.frz _ _ _ h⟩)
  · exact .inr h
theorem Le.sn {K : PySem.W.Frag} {ι ι' : List Addr} {H H' : Hp} {a : Addr} {vs : List V} (l : Le ι H ι' H') (h : SqN K H a vs) : SqN K H' a vs := by
  rcases h with ⟨o, h, z⟩ | h
  · exact .inl ⟨o, l.frz _ _ _ h, z⟩
  · exact .inr h
mutual
theorem Rep.mono {K : PySem.W.Frag} {ι ι' : List Addr} {H H' : Hp} (l : Le ι H ι' H') : ∀ (d : D) (v : V), Rep K ι H d v → Rep K ι' H' d v
  | .non, _, h => h
  | .bl _, _, h => h
  | .int _, _, h => h
  | .str _, _, h => h
  | .tup ds, v, h => by
    obtain ⟨a, vs, e, q, r⟩ := h
    exact ⟨a, vs, e, l.sn q, RepL.mono l ds vs r⟩
  | .ref i, v, h => by
    obtain ⟨a, e, q⟩ := h
    exact ⟨a, e, l.ix i a q⟩
theorem RepL.mono {K : PySem.W.Frag} {ι ι' : List Addr} {H H' : Hp} (l : Le ι H ι' H') : ∀ (ds : List D) (vs : List V), RepL K ι H ds vs → RepL K ι' H' ds vs
  | [], _, h => h
  | d :: ds, _, h => by
    obtain ⟨v, r, e, q, z⟩ := h
    exact ⟨v, r, e, Rep.mono l d v q, RepL.mono l ds r z⟩
end
section
variable {K : PySem.W.Frag} {ι : List Addr} {H : Hp}
theorem RepL.len : ∀ {ds : List D} {vs : List V}, RepL K ι H ds vs → ds.length = vs.length
  | [], _, h => by have h : _ = [] := h; subst h; rfl
  | d :: ds, _, h => by
    obtain ⟨v, r, rfl, _, z⟩ := h
    rw [List.length_cons, List.length_cons, RepL.len z]
theorem RepL.get : ∀ {ds : List D} {vs : List V} {i : Nat} {d : D}, RepL K ι H ds vs → ds[i]? = some d → ∃ v, vs[i]? = some v ∧ Rep K ι H d v
  | [], _, i, _, _, e => by simp at e
  | d0 :: ds, _, 0, d, h, e => by
    obtain ⟨v, r, rfl, q, _⟩ := h
    simp at e
    subst e
    exact ⟨v, rfl, q⟩
  | d0 :: ds, _, i + 1, d, h, e => by
    obtain ⟨v, r, rfl, _, z⟩ := h
    obtain ⟨u, h1, h2⟩ := RepL.get (i := i) z (by simpa using e)
    exact ⟨u, by simpa using h1, h2⟩
theorem RepL.app : ∀ {ds es : List D} {vs us : List V}, RepL K ι H ds vs → RepL K ι H es us → RepL K ι H (ds ++ es) (vs ++ us)
  | [], _, _, _, h, z => by have h : _ = [] := h; subst h; exact z
  | d :: ds, _, _, _, h, z => by
    obtain ⟨v, r, rfl, q, w⟩ := h
    exact ⟨v, _, rfl, q, RepL.app w z⟩
theorem RepL.set {d : D} {v : V} (q : Rep K ι H d v) : ∀ {ds : List D} {vs : List V} (i : Nat), RepL K ι H ds vs → RepL K ι H (ds.set i d) (vs.set i v)
  | [], _, _, h => by have h : _ = [] := h; subst h; exact rfl
  | _ :: _, _, 0, h => by
    obtain ⟨u, r, rfl, _, w⟩ := h
    exact ⟨v, r, rfl, q, w⟩
  | _ :: ds, _, i + 1, h => by
    obtain ⟨u, r, rfl, z, w⟩ := h
    exact ⟨u, _, rfl, z, RepL.set q i w⟩
theorem RepL.drop : ∀ {ds : List D} {vs : List V} (n : Nat), RepL K ι H ds vs → RepL K ι H (ds.drop n) (vs.drop n)
  | _, _, 0, h => h
  | [], _, n + 1, h => by have h : _ = [] := h; subst h; exact rfl
  | _ :: _, _, n + 1, h => by
    obtain ⟨u, r, rfl, _, w⟩ := h
    exact RepL.drop n w
theorem RepL.take : ∀ {ds : List D} {vs : List V} (n : Nat), RepL K ι H ds vs → RepL K ι H (ds.take n) (vs.take n)
  | _, _, 0, _ => rfl
  | [], _, n + 1, h => by have h : _ = [] := h; subst h; exact rfl
  | _ :: _, _, n + 1, h => by
    obtain ⟨u, r, rfl, z, w⟩ := h
    exact ⟨u, _, rfl, z, RepL.take n w⟩
theorem RepL.erase : ∀ {ds : List D} {vs : List V} (n : Nat), RepL K ι H ds vs → RepL K ι H (ds.eraseIdx n) (vs.eraseIdx n)
  | [], _, _, h => by have h : _ = [] := h; subst h; exact rfl
  | _ :: _, _, 0, h => by
    obtain ⟨u, r, rfl, _, w⟩ := h
    exact w
  | _ :: _, _, n + 1, h => by
    obtain ⟨u, r, rfl, z, w⟩ := h
    exact ⟨u, _, rfl, z, RepL.erase n w⟩
theorem RepL.one {d : D} {v : V} (q : Rep K ι H d v) : RepL K ι H [d] [v] := ⟨v, [], rfl, q, rfl⟩
theorem RepL.rev : ∀ {ds : List D} {vs : List V}, RepL K ι H ds vs → RepL K ι H ds.reverse vs.reverse
  | [], _, h => by have h : _ = [] := h; subst h; exact rfl
  | d :: ds, _, h => by
    obtain ⟨u, r, rfl, z, w⟩ := h
    rw [List.reverse_cons, List.reverse_cons]
    exact RepL.app (RepL.rev w) (RepL.one z)
end

mutual
/-- a thing as a key of a dict: no text in it, nothing that may change -/
def nky : D → Option NestedKey
  | .non => some .none
  | .bl b => some (.num (if b = true then 1 else 0))
  | .int i => some (.num i)
  | .tup ds => (nkys ds).map .tup
  | _ => none
def nkys : List D → Option (List NestedKey)
  | [] => some []
  | d :: ds => match nky d, nkys ds with
    | some k, some ks => some (k :: ks)
    | _, _ => none
end
def ORep (K : PySem.W.Frag) (ι : List Addr) (H : Hp) : O → Addr → Prop
  | .lst true ds, a => ∃ vs, H a = some (.lst vs) ∧ RepL K ι H ds vs
  | .lst false ds, a => ∃ vs, ((∃ o, H a = some (.frz o (.lst vs))) ∨ ∃ (o : Obj) (its : Array Value) (n : Nat), K.lookup a = some o ∧ o.cls = .type "list" ∧ o.dict = none ∧ o.data = .seq its n ∧ its.size ≤ sizeLine ∧ Vals vs its.toList) ∧ RepL K ι H ds vs
  | .dk kvs, a => ∃ ws, H a = some (.dK ws) ∧ kvs.map (·.1) = ws.map (·.1) ∧ RepL K ι H (kvs.map (·.2)) (ws.map (·.2))
  | .dt kvs, a => ∃ ws : List Gk.Ent, H a = some (Gk.dtO a ws) ∧ kvs.map (·.1) = ws.map (·.1) ∧ RepL K ι H (kvs.map (·.2)) (ws.map (·.2.2)) ∧ ∀ x ∈ ws, ∃ vs, SqN K H x.2.1 vs ∧ Gk.KVs x.1 vs
  | .dn kvs, a => ∃ ws : List Gn.Ent, H a = some (Gn.dnO a ws) ∧ kvs.map (fun x => nky x.1) = ws.map (fun x => some x.1) ∧ RepL K ι H (kvs.map (·.1)) (ws.map fun x => .ref x.2.1) ∧ RepL K ι H (kvs.map (·.2)) (ws.map (·.2.2)) ∧ ∀ x ∈ ws, Gn.Good x.1
  | .ob c fs, a => ∃ (C dx : Addr) (ws : List (Str × V)), H a = some (.ins C dx ws) ∧ PySem.W.nsIn K mainGlobals c = some (some (.ref C)) ∧ Gn.ClsD K C ∧ fs.map (·.1) = ws.map (·.1) ∧ RepL K ι H (fs.map (·.2)) (ws.map (·.2))
  | .xc x _, a => ∃ C : Addr, H a = some (Gn.exV C a) ∧ PySem.W.nsIn K mainGlobals x = some (some (.ref C)) ∧ Gn.ExcD K C
/-- it may be written -/
def O.mut : O → Bool
  | .lst b _ => b
  | .dk _ => true
  | .dt _ => true
  | .dn _ => true
  | .ob _ _ => true
  | .xc _ _ => true

/-- a table of code objects: of generators (none), or of one lambda (its name) -/
abbrev Tb := Addr × Option Str
def TabL (H : Hp) (P : Addr) (q : Str) : Prop := ∃ ps : Array Value, H P = some (.tbl ps) ∧ TriplesOk ps.toList ∧ ∀ (pos : Pos) (cv : Value), codeAmong pos ps.toList = some cv → ∃ (c : Addr) (oc : Obj) (u : HO) (vs : Array Value) (t : Tok), cv = .ref c ∧ H c = some (.frz oc u) ∧ oc.data = .fields vs ∧ vs[1]? = some (.str q t)
def TabK (H : Hp) (t : Tb) : Prop := match t.2 with
  | none => Gx.TabG H t.1
  | some q => TabL H t.1 q
theorem TabK.up {H H' : Hp} {t : Tb} (h1 : ∀ b ps, H b = some (.tbl ps) → b = t.1 → H' b = some (.tbl ps)) (h2 : ∀ b o u, H b = some (.frz o u) → H' b = some (.frz o u)) (h : TabK H t) : TabK H' t := by
  obtain ⟨P, q⟩ := t
  cases q with
  | none =>
    obtain ⟨ps, e1, e2⟩ := h
    exact ⟨ps, h1 _ _ e1 rfl, e2⟩
  | some q =>
    obtain ⟨ps, e1, e2, e3⟩ := h
    refine ⟨ps, h1 _ _ e1 rfl, e2, fun pos cv hc => ?_⟩
    obtain ⟨c, oc, u, vs, t, a1, a2, a3⟩ := e3 pos cv hc
    exact ⟨c, oc, u, vs, t, a1, h2 _ _ _ a2, a3⟩
structure SRep (K : PySem.W.Frag) (tabs : List Tb) (ι : List Addr) (S : Sto) (H : Hp) : Prop where
  len : S.length = ι.length
  nd : ∀ (i j : Nat) a oi oj, ι[i]? = some a → ι[j]? = some a → S[i]? = some oi → S[j]? = some oj → oi.mut = true → oj.mut = true → i = j
  obj : ∀ (i : Nat) o a, S[i]? = some o → ι[i]? = some a → ORep K ι H o a
  tab : ∀ t ∈ tabs, TabK H t
  tu : ∀ t ∈ tabs, ∀ u ∈ tabs, t.1 = u.1 → t = u

section
variable {K : PySem.W.Frag} {tabs : List Tb} {ι : List Addr} {S : Sto} {H : Hp}
theorem SRep.at (h : SRep K tabs ι S H) {i : Nat} {o : O} (e : S[i]? = some o) : ∃ a, ι[i]? = some a ∧ ORep K ι H o a := by
  have hi : i < ι.length := by rw [← h.len]; exact (List.getElem?_eq_some_iff.mp e).1
  exact ⟨ι[i], List.getElem?_eq_getElem hi, h.obj i o _ e (List.getElem?_eq_getElem hi)⟩
/-- a list is read -/
theorem SRep.list (h : SRep K tabs ι S H) {i : Nat} {w : Bool} {ds : List D} (e : S[i]? = some (.lst w ds)) : ∃ a vs, ι[i]? = some a ∧ SqL K H a vs ∧ RepL K ι H ds vs := by
  obtain ⟨a, ha, q⟩ := h.at e
  cases w with
  | true =>
    obtain ⟨vs, h1, h2⟩ := q
    exact ⟨a, vs, ha, .inl (.inl h1), h2⟩
  | false =>
    obtain ⟨vs, h1 | h1, h2⟩ := q
    · exact ⟨a, vs, ha, .inl (.inr h1), h2⟩
    · exact ⟨a, vs, ha, .inr h1, h2⟩
/-- objects whose own places are kept, stay -/
theorem ORep.stay {ι' : List Addr} {H' : Hp} {o : O} {a : Addr} (l : Le ι H ι' H') (k : o.mut = true → H' a = H a) (h : ORep K ι H o a) : ORep K ι' H' o a := by
  cases o with
  | lst w ds =>
    cases w with
    | true =>
      obtain ⟨vs, h1, h2⟩ := h
      exact ⟨vs, by rw [k rfl]; exact h1, RepL.mono l _ _ h2⟩
    | false =>
      obtain ⟨vs, h1, h2⟩ := h
      refine ⟨vs, ?_, RepL.mono l _ _ h2⟩
      rcases h1 with ⟨o, h1⟩ | h1
      · exact .inl ⟨o, l.frz _ _ _ h1⟩
      · exact .inr h1
  | dk kvs =>
    obtain ⟨ws, h1, h2, h3⟩ := h
    exact ⟨ws, by rw [k rfl]; exact h1, h2, RepL.mono l _ _ h3⟩
  | dt kvs =>
    obtain ⟨ws, h1, h2, h3, h4⟩ := h
    exact ⟨ws, by rw [k rfl]; exact h1, h2, RepL.mono l _ _ h3, fun x hx => by
      obtain ⟨vs, q1, q2⟩ := h4 x hx
      exact ⟨vs, l.sn q1, q2⟩⟩
  | dn kvs =>
    obtain ⟨ws, h1, h2, h3, h4, h5⟩ := h
    exact ⟨ws, by rw [k rfl]; exact h1, h2, RepL.mono l _ _ h3, RepL.mono l _ _ h4, h5⟩
  | ob c fs =>
    obtain ⟨C, dx, ws, h1, h2, h3, h4, h5⟩ := h
    exact ⟨C, dx, ws, by rw [k rfl]; exact h1, h2, h3, h4, RepL.mono l _ _ h5⟩
  | xc x j =>
    obtain ⟨C, h1, h2, h3⟩ := h
    exact ⟨C, by rw [k rfl]; exact h1, h2, h3⟩
theorem ORep.tracked {o : O} {a : Addr} (h : ORep K ι H o a) (m : o.mut = true) : ∃ u, H a = some u ∧ (∀ vs, u ≠ .tup vs) ∧ (∀ o' u', u ≠ .frz o' u') ∧ ∀ ps, u ≠ .tbl ps := by
  cases o with
  | lst w ds =>
    cases w with
    | true =>
      obtain ⟨vs, h1, _⟩ := h
      exact ⟨_, h1, (fun _ z => by cases z), (fun _ _ z => by cases z), fun _ z => by cases z⟩
    | false => cases m
  | dk kvs =>
    obtain ⟨ws, h1, _⟩ := h
    exact ⟨_, h1, (fun _ z => by cases z), (fun _ _ z => by cases z), fun _ z => by cases z⟩
  | dt kvs =>
    obtain ⟨ws, h1, _⟩ := h
    exact ⟨_, h1, (fun _ z => by cases z), (fun _ _ z => by cases z), fun _ z => by cases z⟩
  | dn kvs =>
    obtain ⟨ws, h1, _⟩ := h
    exact ⟨_, h1, (fun _ z => by cases z), (fun _ _ z => by cases z), fun _ z => by cases z⟩
  | ob c fs =>
    obtain ⟨C, dx, ws, h1, _⟩ := h
    exact ⟨_, h1, (fun _ z => by cases z), (fun _ _ z => by cases z), fun _ z => by cases z⟩
  | xc x j =>
    obtain ⟨C, h1, _⟩ := h
    exact ⟨_, h1, (fun _ z => by cases z), (fun _ _ z => by cases z), fun _ z => by cases z⟩
/-- something new that is no object of the store (a tuple) -/
theorem le_upd {p : Addr} {u : HO} (hp : H p = none) : Le ι H ι (upd H p u) :=
  ⟨fun _ _ h => h, fun a vs h => by rw [upd_ne (ne_of_none h hp)]; exact h, fun a o w h => by rw [upd_ne (ne_of_none h hp)]; exact h⟩
theorem SRep.extra (h : SRep K tabs ι S H) {p : Addr} {u : HO} (hp : H p = none) : SRep K tabs ι S (upd H p u) := by
  refine ⟨h.len, h.nd, fun i o a e1 e2 => ?_, fun P hP => ?_, h.tu⟩
  · refine (h.obj i o a e1 e2).stay (le_upd hp) fun m => ?_
    obtain ⟨w, hw, _⟩ := (h.obj i o a e1 e2).tracked m
    exact upd_ne (ne_of_none hw hp)
  · exact (h.tab P hP).up (fun b ps e _ => by rw [upd_ne (ne_of_none e hp)]; exact e) fun b o u e => by rw [upd_ne (ne_of_none e hp)]; exact e
/-- a new object of the store -/
theorem SRep.new (h : SRep K tabs ι S H) {p : Addr} {u : HO} {o : O} (hp : H p = none) (hm : o.mut = true) (ho : ORep K (ι ++ [p]) (upd H p u) o p) :
    SRep K tabs (ι ++ [p]) (S ++ [o]) (upd H p u) ∧ Le ι H (ι ++ [p]) (upd H p u) := by
  have hix : ∀ (i : Nat) a, ι[i]? = some a → (ι ++ [p])[i]? = some a := fun i a e => by
    rw [List.getElem?_append_left (List.getElem?_eq_some_iff.mp e).1]; exact e
  have l : Le ι H (ι ++ [p]) (upd H p u) := ⟨hix, (le_upd (ι := ι) hp).tup, (le_upd (ι := ι) hp).frz⟩
  have cases_i : ∀ {i : Nat} {o' : O} {a : Addr}, (S ++ [o])[i]? = some o' → (ι ++ [p])[i]? = some a → (S[i]? = some o' ∧ ι[i]? = some a) ∨ (i = S.length ∧ o' = o ∧ a = p) := fun {i o' a} e1 e2 => by
    by_cases hi : i < S.length
    · rw [List.getElem?_append_left hi] at e1
      rw [List.getElem?_append_left (by rw [← h.len]; exact hi)] at e2
      exact .inl ⟨e1, e2⟩
    · have hi2 : i < S.length + 1 := by have := (List.getElem?_eq_some_iff.mp e1).1; simpa using this
      have e : i = S.length := by omega
      subst e
      rw [List.getElem?_append_right (Nat.le_refl _)] at e1
      rw [h.len, List.getElem?_append_right (Nat.le_refl _)] at e2
      simp at e1 e2
      exact .inr ⟨rfl, e1.symm, e2.symm⟩
  refine ⟨⟨by simp [h.len], fun i j a oi oj a1 a2 a3 a4 m1 m2 => ?_, fun i o' a e1 e2 => ?_, (h.extra (u := u) hp).tab, h.tu⟩, l⟩
  · rcases cases_i a3 a1 with ⟨b1, b2⟩ | ⟨b1, b2, b3⟩ <;> rcases cases_i a4 a2 with ⟨c1, c2⟩ | ⟨c1, c2, c3⟩
    · exact h.nd i j a oi oj b2 c2 b1 c1 m1 m2
    · obtain ⟨w, hw, _⟩ := (h.obj i oi a b1 b2).tracked m1
      rw [c3, hp] at hw
      cases hw
    · obtain ⟨w, hw, _⟩ := (h.obj j oj a c1 c2).tracked m2
      rw [b3, hp] at hw
      cases hw
    · rw [b1, c1]
  · rcases cases_i e1 e2 with ⟨b1, b2⟩ | ⟨_, b2, b3⟩
    · refine (h.obj i o' a b1 b2).stay l fun m => ?_
      obtain ⟨w, hw, _⟩ := (h.obj i o' a b1 b2).tracked m
      exact upd_ne (ne_of_none hw hp)
    · subst b2 b3
      exact ho
/-- an object is written -/
theorem SRep.put (h : SRep K tabs ι S H) {i : Nat} {a : Addr} {u : HO} {o o' : O} (e1 : S[i]? = some o) (e2 : ι[i]? = some a) (m : o.mut = true) (m' : o'.mut = true) (ho : ORep K ι (upd H a u) o' a) :
    SRep K tabs ι (S.set i o') (upd H a u) ∧ Le ι H ι (upd H a u) := by
  obtain ⟨w, hw, n1, n2, n3⟩ := (h.obj i o a e1 e2).tracked m
  have l : Le ι H ι (upd H a u) := ⟨fun _ _ z => z, fun b vs z => by
      rw [upd_ne (fun q => by rw [q, hw] at z; exact n1 vs (Option.some.inj z))]; exact z, fun b o u z => by
      rw [upd_ne (fun q => by rw [q, hw] at z; exact n2 o u (Option.some.inj z))]; exact z⟩
  have hi : i < S.length := (List.getElem?_eq_some_iff.mp e1).1
  have cs : ∀ {j : Nat} {oj : O}, (S.set i o')[j]? = some oj → (j = i ∧ oj = o') ∨ (j ≠ i ∧ S[j]? = some oj) := fun {j oj} e => by
    by_cases hj : j = i
    · subst hj
      rw [List.getElem?_set_self hi] at e
      exact .inl ⟨rfl, (Option.some.inj e).symm⟩
    · rw [List.getElem?_set_ne (Ne.symm hj)] at e
      exact .inr ⟨hj, e⟩
  refine ⟨⟨by rw [List.length_set]; exact h.len, fun x y b ox oy a1 a2 a3 a4 m1 m2 => ?_, fun j oj b z1 z2 => ?_, fun P hP => ?_, h.tu⟩, l⟩
  · rcases cs a3 with ⟨b1, b2⟩ | ⟨b1, b2⟩ <;> rcases cs a4 with ⟨c1, c2⟩ | ⟨c1, c2⟩
    · rw [b1, c1]
    · rw [b1] at a1 ⊢
      exact h.nd i y b o oy a1 a2 e1 c2 m m2
    · rw [c1] at a2 ⊢
      exact h.nd x i b ox o a1 a2 b2 e1 m1 m
    · exact h.nd x y b ox oy a1 a2 b2 c2 m1 m2
  · rcases cs z1 with ⟨b1, b2⟩ | ⟨b1, b2⟩
    · subst b1 b2
      rw [e2] at z2
      cases z2
      exact ho
    · refine (h.obj j oj b b2 z2).stay l fun mj => ?_
      refine upd_ne fun q => b1 ?_
      exact h.nd j i b oj o z2 (by rw [q]; exact e2) b2 e1 mj m
  · exact (h.tab P hP).up (fun b ps e _ => by rw [upd_ne fun q => n3 ps (by rw [q, hw] at e; exact Option.some.inj e)]; exact e) fun b o u e => by rw [upd_ne fun q => n2 o u (by rw [q, hw] at e; exact Option.some.inj e)]; exact e
end
end Dv

namespace Dv
open PySem PySem.Spec PyProof.Rows L2

/-- what a piece of the program comes to: a value, an error of the class with this number, nothing known -/
inductive R (α : Type) where
  | ok (a : α) (S : Sto) | ex (c : Nat) (S : Sto) | no
namespace R
variable {α β : Type}
def bind : R α → (α → Sto → R β) → R β
  | ok a S, f => f a S
  | ex c S, _ => ex c S
  | no, _ => no
def wp : R α → (α → Sto → Prop) → (Nat → Sto → Prop) → Prop
  | ok a S, Q, _ => Q a S
  | ex c S, _, W => W c S
  | no, _, _ => False
theorem wp_bind {x : R α} {f : α → Sto → R β} {Q : β → Sto → Prop} {W : Nat → Sto → Prop} : (x.bind f).wp Q W ↔ x.wp (fun a S => (f a S).wp Q W) W := by
  cases x <;> exact Iff.rfl
theorem wp_mono {x : R α} {Q Q' : α → Sto → Prop} {W W' : Nat → Sto → Prop} (h : x.wp Q W) (hq : ∀ a S, Q a S → Q' a S) (hw : ∀ c S, W c S → W' c S) : x.wp Q' W' := by
  cases x with
  | ok a S => exact hq a S h
  | ex c S => exact hw c S h
  | no => exact h
@[simp] theorem bind_ok {a : α} {S : Sto} {f : α → Sto → R β} : (ok a S).bind f = f a S := id rfl
@[simp] theorem bind_ex {c : Nat} {S : Sto} {f : α → Sto → R β} : (ex c S).bind f = ex c S := id rfl
@[simp] theorem bind_no {f : α → Sto → R β} : (no : R α).bind f = no := id rfl
@[simp] theorem wp_ok {a : α} {S : Sto} {Q : α → Sto → Prop} {W : Nat → Sto → Prop} : (ok a S).wp Q W = Q a S := id rfl
@[simp] theorem wp_ex {c : Nat} {S : Sto} {Q : α → Sto → Prop} {W : Nat → Sto → Prop} : (ex c S).wp Q W = W c S := id rfl
@[simp] theorem wp_no {Q : α → Sto → Prop} {W : Nat → Sto → Prop} : (no : R α).wp Q W = False := id rfl
end R

abbrev Env := List (Option D)
abbrev Fn := Nat → List D → Sto → R D
abbrev Lv := Nat → Fn
abbrev Den := Lv → Env → Sto → R D
abbrev DenT := Lv → Env → Sto → R Bool
abbrev DenA := Lv → Env → Sto → R (List D)
/-- the levels below -/
def Lv.dn (l : Lv) : Lv := fun i => l (i + 1)

/-- where one stands: the written part, the tables of code objects; what is wanted of an error -/
structure Wn where
  K : PySem.W.Frag
  tabs : List Tb
abbrev EXT := Nat → L2.St → Hp → Prop

def ERep (K : PySem.W.Frag) (ι : List Addr) (H : Hp) (ρ : Env) (σ : L2.St) : Prop := ρ.length = σ.length ∧ ∀ (i : Nat) d, ρ[i]? = some (some d) → ∃ v, σ[i]? = some (some v) ∧ Rep K ι H d v
theorem ERep.mono {K : PySem.W.Frag} {ι ι' : List Addr} {H H' : Hp} {ρ : Env} {σ : L2.St} (l : Le ι H ι' H') (h : ERep K ι H ρ σ) : ERep K ι' H' ρ σ :=
  ⟨h.1, fun i d e => by obtain ⟨v, h1, h2⟩ := h.2 i d e; exact ⟨v, h1, Rep.mono l d v h2⟩⟩
theorem ERep.set {K : PySem.W.Frag} {ι : List Addr} {H : Hp} {ρ : Env} {σ : L2.St} {i : Nat} {d : D} {v : V} (h : ERep K ι H ρ σ) (r : Rep K ι H d v) : ERep K ι H (ρ.set i (some d)) (σ.set i (some v)) := by
  refine ⟨by rw [List.length_set, List.length_set]; exact h.1, fun j e hj => ?_⟩
  by_cases hij : i = j
  · subst hij
    by_cases hi : i < ρ.length
    · rw [List.getElem?_set_self hi] at hj
      cases hj
      exact ⟨v, List.getElem?_set_self (by rw [← h.1]; exact hi), r⟩
    · rw [List.getElem?_eq_none (by rw [List.length_set]; omega)] at hj
      cases hj
  · rw [List.getElem?_set_ne hij] at hj
    obtain ⟨u, h1, h2⟩ := h.2 j e hj
    exact ⟨u, by rw [List.getElem?_set_ne hij]; exact h1, h2⟩

section
variable (w : Wn)
def PV (ι : List Addr) (H : Hp) (Q : VK) : D → Sto → Prop := fun x S' => ∀ v H' ι', Le ι H ι' H' → SRep w.K w.tabs ι' S' H' → Rep w.K ι' H' x v → Q v H'
def PB (ι : List Addr) (H : Hp) (Q : Bool → Hp → Prop) : Bool → Sto → Prop := fun b S' => ∀ H' ι', Le ι H ι' H' → SRep w.K w.tabs ι' S' H' → Q b H'
def PL (ι : List Addr) (H : Hp) (Q : List V → Hp → Prop) : List D → Sto → Prop := fun xs S' => ∀ vs H' ι', Le ι H ι' H' → SRep w.K w.tabs ι' S' H' → RepL w.K ι' H' xs vs → Q vs H'
def PX (EX : EXT) (ι : List Addr) (H : Hp) (σ : L2.St) : Nat → Sto → Prop := fun c S' => ∀ H' ι', Le ι H ι' H' → SRep w.K w.tabs ι' S' H' → EX c σ H'
variable {w}
variable {ι ι1 : List Addr} {H H1 : Hp}
theorem PV.mono {Q : VK} {x : D} {S : Sto} (l : Le ι H ι1 H1) (h : PV w ι H Q x S) : PV w ι1 H1 Q x S := fun v H' ι' l' => h v H' ι' (l.trans l')
theorem PB.mono {Q : Bool → Hp → Prop} {x : Bool} {S : Sto} (l : Le ι H ι1 H1) (h : PB w ι H Q x S) : PB w ι1 H1 Q x S := fun H' ι' l' => h H' ι' (l.trans l')
theorem PL.mono {Q : List V → Hp → Prop} {x : List D} {S : Sto} (l : Le ι H ι1 H1) (h : PL w ι H Q x S) : PL w ι1 H1 Q x S := fun v H' ι' l' => h v H' ι' (l.trans l')
theorem PX.mono {EX : EXT} {σ : L2.St} {c : Nat} {S : Sto} (l : Le ι H ι1 H1) (h : PX w EX ι H σ c S) : PX w EX ι1 H1 σ c S := fun H' ι' l' => h H' ι' (l.trans l')
end

/-- the readings -/
def semE (w : Wn) (EX : EXT) (lv : Lv) (d : Den) : TE := fun σ H Q => ∃ ρ S ι, ERep w.K ι H ρ σ ∧ SRep w.K w.tabs ι S H ∧ (d lv ρ S).wp (PV w ι H Q) (PX w EX ι H σ)
def semT (w : Wn) (EX : EXT) (lv : Lv) (d : DenT) : TT := fun σ H Q => ∃ ρ S ι, ERep w.K ι H ρ σ ∧ SRep w.K w.tabs ι S H ∧ (d lv ρ S).wp (PB w ι H Q) (PX w EX ι H σ)
def semA (w : Wn) (EX : EXT) (lv : Lv) (d : DenA) : TA := fun σ H Q => ∃ ρ S ι, ERep w.K ι H ρ σ ∧ SRep w.K w.tabs ι S H ∧ (d lv ρ S).wp (PL w ι H Q) (PX w EX ι H σ)

section
variable {w : Wn} {EX : EXT} {lv : Lv} {σ : L2.St} {H : Hp} {ρ : Env} {S : Sto} {ι : List Addr} {β : Type}
/-- one part, then the rest -/
theorem stepE {d : Den} {k : D → Sto → R β} {Po : List Addr → Hp → β → Sto → Prop} {T : VK} (he : ERep w.K ι H ρ σ) (hs : SRep w.K w.tabs ι S H)
    (mono : ∀ {ι1 H1 b S1}, Le ι H ι1 H1 → Po ι H b S1 → Po ι1 H1 b S1)
    (hw : ((d lv ρ S).bind k).wp (Po ι H) (PX w EX ι H σ))
    (cont : ∀ x S1 v H1 ι1, Le ι H ι1 H1 → SRep w.K w.tabs ι1 S1 H1 → Rep w.K ι1 H1 x v → ERep w.K ι1 H1 ρ σ → (k x S1).wp (Po ι1 H1) (PX w EX ι1 H1 σ) → T v H1) : semE w EX lv d σ H T := by
  refine ⟨ρ, S, ι, he, hs, R.wp_mono (R.wp_bind.mp hw) (fun x S1 h => ?_) fun c S1 h => h⟩
  intro v H1 ι1 l s1 r
  exact cont x S1 v H1 ι1 l s1 r (he.mono l) (R.wp_mono h (fun b S2 q => mono l q) fun c S2 q => q.mono l)
theorem stepT {d : DenT} {k : Bool → Sto → R β} {Po : List Addr → Hp → β → Sto → Prop} {T : Bool → Hp → Prop} (he : ERep w.K ι H ρ σ) (hs : SRep w.K w.tabs ι S H)
    (mono : ∀ {ι1 H1 b S1}, Le ι H ι1 H1 → Po ι H b S1 → Po ι1 H1 b S1)
    (hw : ((d lv ρ S).bind k).wp (Po ι H) (PX w EX ι H σ))
    (cont : ∀ x S1 H1 ι1, Le ι H ι1 H1 → SRep w.K w.tabs ι1 S1 H1 → ERep w.K ι1 H1 ρ σ → (k x S1).wp (Po ι1 H1) (PX w EX ι1 H1 σ) → T x H1) : semT w EX lv d σ H T := by
  refine ⟨ρ, S, ι, he, hs, R.wp_mono (R.wp_bind.mp hw) (fun x S1 h => ?_) fun c S1 h => h⟩
  intro H1 ι1 l s1
  exact cont x S1 H1 ι1 l s1 (he.mono l) (R.wp_mono h (fun b S2 q => mono l q) fun c S2 q => q.mono l)
theorem stepA {d : DenA} {k : List D → Sto → R β} {Po : List Addr → Hp → β → Sto → Prop} {T : List V → Hp → Prop} (he : ERep w.K ι H ρ σ) (hs : SRep w.K w.tabs ι S H)
    (mono : ∀ {ι1 H1 b S1}, Le ι H ι1 H1 → Po ι H b S1 → Po ι1 H1 b S1)
    (hw : ((d lv ρ S).bind k).wp (Po ι H) (PX w EX ι H σ))
    (cont : ∀ x S1 v H1 ι1, Le ι H ι1 H1 → SRep w.K w.tabs ι1 S1 H1 → RepL w.K ι1 H1 x v → ERep w.K ι1 H1 ρ σ → (k x S1).wp (Po ι1 H1) (PX w EX ι1 H1 σ) → T v H1) : semA w EX lv d σ H T := by
  refine ⟨ρ, S, ι, he, hs, R.wp_mono (R.wp_bind.mp hw) (fun x S1 h => ?_) fun c S1 h => h⟩
  intro v H1 ι1 l s1 r
  exact cont x S1 v H1 ι1 l s1 r (he.mono l) (R.wp_mono h (fun b S2 q => mono l q) fun c S2 q => q.mono l)
/-- at the end -/
theorem PV.now {Q : VK} {x : D} {v : V} (h : PV w ι H Q x S) (hs : SRep w.K w.tabs ι S H) (r : Rep w.K ι H x v) : Q v H := h v H ι (Le.refl _ _) hs r
end

/-- weaker readings -/
theorem PE.imp {X : Cx} {e : Expr} {t t' : TE} (h : PE X e t) (i : ∀ σ H Q, t' σ H Q → t σ H Q) : PE X e t' := ⟨fun pins s σ H Q I q => h.run pins s σ H Q I (i σ H Q q)⟩
theorem PT.imp {X : Cx} {e : Expr} {t t' : TT} (h : PT X e t) (i : ∀ σ H Q, t' σ H Q → t σ H Q) : PT X e t' := ⟨fun pins s σ H Q I q => h.run pins s σ H Q I (i σ H Q q)⟩
theorem PA.imp {X : Cx} {e : List Expr} {t t' : TA} (h : PA X e t) (i : ∀ σ H Q, t' σ H Q → t σ H Q) : PA X e t' := ⟨fun pos pins s σ H Q I q => h.run pos pins s σ H Q I (i σ H Q q)⟩
theorem PS.imp {X : Cx} {e : Stmt} {t t' : TS} (h : PS X e t) (i : ∀ D σ H, t' D σ H → t D σ H) : PS X e t' := ⟨fun pins s σ H D I q => h.run pins s σ H D I (i D σ H q)⟩
theorem PSs.imp {X : Cx} {e : List Stmt} {t t' : TS} (h : PSs X e t) (i : ∀ D σ H, t' D σ H → t D σ H) : PSs X e t' := ⟨fun pins s σ H D I q => h.run pins s σ H D I (i D σ H q)⟩

/-! ### values -/
/-- an operation on two values, by data -/
abbrev Op2 := D → D → Sto → R D
def rOp (w : Wn) (o : Op2) : R2 := fun x y H Q => ∃ S ι d1 d2, SRep w.K w.tabs ι S H ∧ Rep w.K ι H d1 x ∧ Rep w.K ι H d2 y ∧ (o d1 d2 S).wp (PV w ι H Q) (fun _ _ => False)
abbrev OpN := List D → Sto → R D
def rCl (w : Wn) (o : OpN) : List V → Hp → VK → Prop := fun xs H Q => ∃ S ι ds, SRep w.K w.tabs ι S H ∧ RepL w.K ι H ds xs ∧ (o ds S).wp (PV w ι H Q) (fun _ _ => False)
abbrev Op1 := D → Sto → R D
def rU1 (w : Wn) (o : Op1) : V → Hp → VK → Prop := fun x H Q => ∃ S ι d, SRep w.K w.tabs ι S H ∧ Rep w.K ι H d x ∧ (o d S).wp (PV w ι H Q) (fun _ _ => False)

/-- no error comes from it -/
def quiet {α : Type} (x : R α) : R α := match x with
  | .ok a S => .ok a S
  | _ => .no
def dOp (o : Op2) (a b : Den) : Den := fun lv ρ S => (a lv ρ S).bind fun x S1 => (b lv ρ S1).bind fun y S2 => quiet (o x y S2)
theorem quiet_wp {α : Type} {x : R α} {Q : α → Sto → Prop} {W W' : Nat → Sto → Prop} (h : (quiet x).wp Q W) : x.wp Q W' := by
  cases x with
  | ok a S => exact h
  | ex c S => exact False.elim h
  | no => exact h
theorem sem_op {w : Wn} {EX : EXT} {lv : Lv} {o : Op2} {a b : Den} {σ : L2.St} {H : Hp} {Q : VK} (h : semE w EX lv (dOp o a b) σ H Q) : tOp (rOp w o) (semE w EX lv a) (semE w EX lv b) σ H Q := by
  obtain ⟨ρ, S, ι, he, hs, hw⟩ := h
  refine stepE (Po := fun ι H => PV w ι H Q) he hs (fun l q => q.mono l) hw fun x S1 v H1 ι1 l1 s1 r1 e1 h1 => ?_
  refine stepE (Po := fun ι H => PV w ι H Q) e1 s1 (fun l q => q.mono l) h1 fun y S2 u H2 ι2 l2 s2 r2 e2 h2 => ?_
  exact ⟨S2, ι2, x, y, s2, Rep.mono l2 x v r1, r2, quiet_wp h2⟩
section
variable {X : Cx} {w : Wn} {EX : EXT} {lv : Lv} {a b : Expr} {da db : Den} {pos : Pos}
theorem pd_op {op : Operator} {o : Op2} (ho : OpR X (binaryOp op) (rOp w o)) (ha : PE X a (semE w EX lv da)) (hb : PE X b (semE w EX lv db)) : PE X (.BinOp a op b pos) (semE w EX lv (dOp o da db)) :=
  PE.imp (pe_op ho ha hb) fun _ _ _ h => sem_op h
theorem pd_cmp {op : CmpOp} {o : Op2} (ho : OpR X (compareOp op) (rOp w o)) (ha : PE X a (semE w EX lv da)) (hb : PE X b (semE w EX lv db)) (hm : behindInMarks op b = false) : PE X (.Compare a [op] [b] pos) (semE w EX lv (dOp o da db)) :=
  PE.imp (pe_cmpR ho ha hb hm) fun _ _ _ h => sem_op h
theorem pd_ix {o : Op2} (hr : IxR X (rOp w o)) (ha : PE X a (semE w EX lv da)) (hb : PE X b (semE w EX lv db)) (hs : PlainIx b) : PE X (.Subscript a b pos) (semE w EX lv (dOp o da db)) :=
  PE.imp (pe_ix hr ha hb hs) fun _ _ _ h => sem_op h
def dUn (o : Op1) (a : Den) : Den := fun lv ρ S => (a lv ρ S).bind fun x S1 => quiet (o x S1)
theorem pd_un {op : UnaryOp} {o : Op1} (ho : UnR X (unaryOp op) (rU1 w o)) (ha : PE X a (semE w EX lv da)) : PE X (.UnaryOp op a pos) (semE w EX lv (dUn o da)) := by
  refine PE.imp (pe_un ho ha) fun σ H Q h => ?_
  obtain ⟨ρ, S, ι, he, hs, hw⟩ := h
  refine stepE (Po := fun ι H => PV w ι H Q) he hs (fun l q => q.mono l) hw fun x S1 v H1 ι1 l1 s1 r1 e1 h1 => ?_
  exact ⟨S1, ι1, x, s1, r1, quiet_wp h1⟩
/-! ### names, constants -/
def dVar (i : Nat) : Den := fun _ ρ S => match ρ[i]? with
  | some (some d) => .ok d S
  | _ => .no
theorem pd_var {i : Nat} {x : Str} (hN : X.N[i]? = some x) (hv : Vis X.env.scope x) (hd : (x == ("__debug__" : Str)) = false) (hcd : (x == ("__classdict__" : Str)) = false) : PE X (.Name x pos) (semE w EX lv (dVar i)) := by
  refine PE.imp (pe_var hN hv hd hcd) fun σ H Q h => ?_
  obtain ⟨ρ, S, ι, he, hs, hw⟩ := h
  unfold dVar at hw
  split at hw
  · rename_i d e
    obtain ⟨v, h1, h2⟩ := he.2 i d e
    exact ⟨v, h1, PV.now hw hs h2⟩
  · exact hw.elim
def dC (d : D) : Den := fun _ _ S => .ok d S
theorem pd_c {e : Expr} {d : D} {v : V} (h : PE X e (tC v)) (r : ∀ ι H, Rep w.K ι H d v) : PE X e (semE w EX lv (dC d)) := by
  refine PE.imp h fun σ H Q h => ?_
  obtain ⟨ρ, S, ι, he, hs, hw⟩ := h
  exact PV.now hw hs (r ι H)
/-! ### arguments, displays -/
def dNil : DenA := fun _ _ S => .ok [] S
def dCons (a : Den) (r : DenA) : DenA := fun lv ρ S => (a lv ρ S).bind fun x S1 => (r lv ρ S1).bind fun xs S2 => .ok (x :: xs) S2
theorem pd_nil : PA X [] (semA w EX lv dNil) := by
  refine PA.imp pa_nil fun σ H Q h => ?_
  obtain ⟨ρ, S, ι, he, hs, hw⟩ := h
  exact hw [] H ι (Le.refl _ _) hs rfl
theorem pd_cons {es : List Expr} {r : DenA} (ha : PE X a (semE w EX lv da)) (hr : PA X es (semA w EX lv r)) (hst : starEach (a :: es) X.env = (false, eval a X.env) :: starEach es X.env) : PA X (a :: es) (semA w EX lv (dCons da r)) := by
  refine PA.imp (pa_cons ha hr hst) fun σ H Q h => ?_
  obtain ⟨ρ, S, ι, he, hs, hw⟩ := h
  refine stepE (Po := fun ι H => PL w ι H Q) he hs (fun l q => q.mono l) hw fun x S1 v H1 ι1 l1 s1 r1 e1 h1 => ?_
  refine stepA (Po := fun ι H => PL w ι H Q) e1 s1 (fun l q => q.mono l) h1 fun y S2 u H2 ι2 l2 s2 r2 e2 h2 => ?_
  exact h2 (v :: u) H2 ι2 (Le.refl _ _) s2 ⟨v, u, rfl, Rep.mono l2 x v r1, r2⟩
/-- what is laid anew stays below this -/
abbrev mx : Nat := 1000000
theorem mx_le {n : Nat} (h : n ≤ mx) : n ≤ sizeLine := Nat.le_trans h (by decide)
theorem mx_lt {n : Nat} (h : n < mx) : n < sizeLine := Nat.lt_of_lt_of_le h (by decide)
def dTup (a : DenA) : Den := fun lv ρ S => (a lv ρ S).bind fun xs S1 => if xs.length ≤ mx then .ok (.tup xs) S1 else .no
def dLst (a : DenA) : Den := fun lv ρ S => (a lv ρ S).bind fun xs S1 => if xs.length ≤ mx then .ok (.ref S1.length) (S1 ++ [.lst true xs]) else .no
theorem new_lst {ι : List Addr} {S : Sto} {H : Hp} {p : Addr} {xs : List D} {vs : List V} (hs : SRep w.K w.tabs ι S H) (hp : H p = none) (r : RepL w.K ι H xs vs) :
    SRep w.K w.tabs (ι ++ [p]) (S ++ [.lst true xs]) (upd H p (.lst vs)) ∧ Le ι H (ι ++ [p]) (upd H p (.lst vs)) ∧ Rep w.K (ι ++ [p]) (upd H p (.lst vs)) (.ref S.length) (.ref p) := by
  have hix : ∀ (i : Nat) a, ι[i]? = some a → (ι ++ [p])[i]? = some a := fun i a e => by
    rw [List.getElem?_append_left (List.getElem?_eq_some_iff.mp e).1]; exact e
  have l : Le ι H (ι ++ [p]) (upd H p (.lst vs)) := ⟨hix, (le_upd (ι := ι) hp).tup, (le_upd (ι := ι) hp).frz⟩
  obtain ⟨h1, h2⟩ := hs.new (u := .lst vs) (o := .lst true xs) hp rfl ⟨vs, upd_same, RepL.mono l _ _ r⟩
  exact ⟨h1, h2, p, rfl, by rw [hs.len, List.getElem?_append_right (Nat.le_refl _)]; simp⟩
theorem pd_tup {es : List Expr} {k : Nat} {r : DenA} (h : PA X es (semA w EX lv r)) : PE X (.Tuple es k pos) (semE w EX lv (dTup r)) := by
  refine PE.imp (Fz.pe_tupF h) fun σ H Q h => ?_
  obtain ⟨ρ, S, ι, he, hs, hw⟩ := h
  refine stepA (Po := fun ι H => PV w ι H Q) he hs (fun l q => q.mono l) hw fun x S1 v H1 ι1 l1 s1 r1 e1 h1 => ?_
  by_cases hx : x.length ≤ mx
  · rw [if_pos hx] at h1
    refine ⟨by rw [← r1.len]; exact mx_le hx, fun p us hp => ?_⟩
    have l2 := le_upd (ι := ι1) (u := Fz.fz us v) hp
    exact h1 _ _ ι1 l2 (s1.extra hp) ⟨p, v, rfl, .inl ⟨_, upd_same, rfl, rfl⟩, RepL.mono l2 _ _ r1⟩
  · rw [if_neg hx] at h1
    exact h1.elim
theorem pd_lst {es : List Expr} {r : DenA} (h : PA X es (semA w EX lv r)) : PE X (.List es pos) (semE w EX lv (dLst r)) := by
  refine PE.imp (pe_lst h) fun σ H Q h => ?_
  obtain ⟨ρ, S, ι, he, hs, hw⟩ := h
  refine stepA (Po := fun ι H => PV w ι H Q) he hs (fun l q => q.mono l) hw fun x S1 v H1 ι1 l1 s1 r1 e1 h1 => ?_
  by_cases hx : x.length ≤ mx
  · rw [if_pos hx] at h1
    refine ⟨by rw [← r1.len]; exact mx_le hx, fun p hp => ?_⟩
    obtain ⟨s2, l2, r2⟩ := new_lst s1 hp r1
    exact h1 _ _ _ l2 s2 r2
  · rw [if_neg hx] at h1
    exact h1.elim
end
end Dv

namespace Dv
open PySem PySem.Spec PyProof.Rows L2

/-! ### operations by data -/
def addD : Op2
  | .int i, .int j, S => .ok (.int (i + j)) S
  | .str a, .str b, S => if a.length + b.length ≤ mx then .ok (.str (a ++ b)) S else .no
  | .tup xs, .tup ys, S => if xs.length + ys.length ≤ mx then .ok (.tup (xs ++ ys)) S else .no
  | .ref i, .ref j, S => match S[i]?, S[j]? with
    | some (.lst true xs), some (.lst true ys) => if xs.length + ys.length ≤ mx then .ok (.ref S.length) (S ++ [.lst true (xs ++ ys)]) else .no
    | _, _ => .no
  | _, _, _ => .no
def subD : Op2
  | .int i, .int j, S => .ok (.int (i - j)) S
  | _, _, _ => .no
def mulD : Op2
  | .int i, .int j, S => if (-18446744073709551616 < i ∧ i < 18446744073709551616) ∨ (-18446744073709551616 < j ∧ j < 18446744073709551616) then .ok (.int (i * j)) S else .no
  | .ref r, .int k, S => match S[r]? with
    | some (.lst true xs) => if k ≤ 1000 ∧ -1000 ≤ k ∧ xs.length ≤ 1000 then .ok (.ref S.length) (S ++ [.lst true (List.replicate k.toNat xs).flatten]) else .no
    | _ => .no
  | .tup xs, .int k, S => if k ≤ 1000 ∧ -1000 ≤ k ∧ xs.length ≤ 1000 then .ok (.tup (List.replicate k.toNat xs).flatten) S else .no
  | _, _, _ => .no
theorem rep_flat {K : PySem.W.Frag} {ι : List Addr} {H : Hp} {xs : List D} {vs : List V} (l : RepL K ι H xs vs) : ∀ n, RepL K ι H (List.replicate n xs).flatten (List.replicate n vs).flatten
  | 0 => rfl
  | n + 1 => by
    rw [List.replicate_succ, List.replicate_succ, List.flatten_cons, List.flatten_cons]
    exact l.app (rep_flat l n)
def fdivD : Op2
  | .int i, .int j, S => if 0 < j ∧ j < 1073741824 then .ok (.int (i / j)) S else .no
  | _, _, _ => .no
def modD : Op2
  | .int i, .int j, S => if 0 < j then .ok (.int (i % j)) S else .no
  | _, _, _ => .no
def powD : Op2
  | .int i, .int j, S => if 0 ≤ j ∧ j ≤ 1000000 ∧ i.natAbs < 18446744073709551616 then .ok (.int (i ^ j.toNat)) S else .no
  | _, _, _ => .no
def negD : Op1
  | .int i, S => .ok (.int (-i)) S
  | _, _ => .no
def notD : Op1
  | .bl b, S => .ok (.bl (!b)) S
  | _, _ => .no
/-- a list of ints -/
def ints? : List D → Option (List Int)
  | [] => some []
  | .int i :: r => (ints? r).map (i :: ·)
  | _ => none
def ltD : Op2
  | .int i, .int j, S => .ok (.bl (decide (i < j))) S
  | .tup xs, .tup ys, S => match ints? xs, ints? ys with
    | some ns, some ms => .ok (.bl (HT.lexLt ns ms)) S
    | _, _ => .no
  | _, _, _ => .no
def leD : Op2
  | .int i, .int j, S => .ok (.bl (decide (i ≤ j))) S
  | _, _, _ => .no
def gtD : Op2
  | .int i, .int j, S => .ok (.bl (decide (j < i))) S
  | _, _, _ => .no
def geD : Op2
  | .int i, .int j, S => .ok (.bl (decide (j ≤ i))) S
  | _, _, _ => .no
/-- == of plain values -/
def eqS : D → D → Option Bool
  | .non, .non => some true
  | .non, .int _ => some false | .int _, .non => some false | .non, .bl _ => some false | .bl _, .non => some false | .non, .str _ => some false | .str _, .non => some false
  | .int i, .int j => some (decide (i = j)) | .bl i, .bl j => some (decide (i = j)) | .str i, .str j => some (decide (i = j))
  | .int _, .str _ => some false | .str _, .int _ => some false | .bl _, .str _ => some false | .str _, .bl _ => some false
  | _, _ => none
mutual
/-- as data, to a depth -/
def toP (S : Sto) : Nat → D → Option PyData
  | 0, _ => none
  | _ + 1, .non => some .none
  | _ + 1, .bl b => some (.bool b)
  | _ + 1, .int i => some (.int i)
  | _ + 1, .str x => some (.str x)
  | n + 1, .tup ds => (toPs S n ds).map .tuple
  | n + 1, .ref i => match S[i]? with
    | some (.lst _ ds) => (toPs S n ds).map .list
    | _ => none
def toPs (S : Sto) : Nat → List D → Option (List PyData)
  | _, [] => some []
  | 0, _ :: _ => none
  | n + 1, d :: ds => match toP S n d, toPs S n ds with
    | some p, some ps => some (p :: ps)
    | _, _ => none
end
def eqB (d e : D) (S : Sto) : Option Bool := match eqS d e with
  | some b => some b
  | none => match toP S 1000 d, toP S 1000 e with
    | some p, some q => if SeqAt.shaped p = true ∧ SeqAt.shaped q = true then some (PyData.eqv p q) else none
    | _, _ => none
def eqD : Op2 := fun d e S => match eqB d e S with
  | some b => .ok (.bl b) S
  | none => .no
def neD : Op2 := fun d e S => match eqB d e S with
  | some b => .ok (.bl (!b)) S
  | none => .no
def isND : Op2
  | d, .non, S => .ok (.bl (match d with | .non => true | _ => false)) S
  | d, .bl b, S => .ok (.bl (match d with | .bl a => decide (a = b) | _ => false)) S
  | _, _, _ => .no
def isnD : Op2
  | d, .non, S => .ok (.bl (match d with | .non => false | _ => true)) S
  | d, .bl b, S => .ok (.bl (match d with | .bl a => !decide (a = b) | _ => true)) S
  | _, _, _ => .no
/-- the items of a list or a tuple -/
def itemsD (d : D) (S : Sto) : Option (List D) := match d with
  | .tup xs => some xs
  | .ref i => match S[i]? with
    | some (.lst _ xs) => some xs
    | _ => none
  | _ => none
def ixD : Op2 := fun d i S => match itemsD d S, i with
  | some xs, .int k => match atI xs k with
    | some x => .ok x S
    | none => .no
  | _, _ => .no

section
variable {X : Cx} {tabs : List Tb}
theorem opd_sub : OpR X (binaryOp .Sub) (rOp ⟨X.K, tabs⟩ subD) := by
  rintro pins s σ H x y v u Q I rx ry ⟨S, ι, d1, d2, hs, r1, r2, hw⟩
  cases d1 <;> cases d2 <;> first | exact False.elim hw | skip
  cases r1; cases r2
  exact op_sub pins s σ H _ _ v u Q I rx ry ⟨_, _, rfl, rfl, PV.now hw hs rfl⟩
theorem repT {K : PySem.W.Frag} {ι : List Addr} {H : Hp} {p : Addr} {ds : List D} {vs : List V} {us : List Value} (hp : H p = none) (r : RepL K ι H ds vs) : Rep K ι (upd H p (Fz.fz us vs)) (.tup ds) (.ref p) :=
  ⟨p, vs, rfl, .inl ⟨_, upd_same, rfl, rfl⟩, RepL.mono (le_upd hp) _ _ r⟩
theorem repl_nil {K : PySem.W.Frag} {ι : List Addr} {H : Hp} {ds : List D} (r : RepL K ι H ds []) : ds = [] := by
  cases ds with
  | nil => rfl
  | cons d ds => obtain ⟨_, _, e, _⟩ := r; cases e
theorem opd_add : OpR X (binaryOp .Add) (rOp ⟨X.K, tabs⟩ addD) := by
  rintro pins s σ H x y v u Q I rx ry ⟨S, ι, d1, d2, hs, r1, r2, hw⟩
  cases d1 <;> cases d2 <;> first | exact False.elim hw | skip
  · cases r1; cases r2
    exact op_add pins s σ H _ _ v u Q I rx ry ⟨_, _, rfl, rfl, PV.now hw hs rfl⟩
  · cases r1; cases r2
    rename_i a b
    unfold addD at hw
    try dsimp only at hw
    by_cases hz : a.length + b.length ≤ mx
    · rw [if_pos hz] at hw
      exact op_add_str pins s σ H _ _ v u Q I rx ry ⟨_, _, rfl, rfl, mx_le hz, PV.now hw hs rfl⟩
    · rw [if_neg hz] at hw; exact hw.elim
  · rename_i xs ys
    obtain ⟨a, vs, rfl, q1, l1⟩ := r1
    obtain ⟨b, us, rfl, q2, l2⟩ := r2
    unfold addD at hw
    try dsimp only at hw
    by_cases hz : xs.length + ys.length ≤ mx
    · rw [if_pos hz] at hw
      have hz2 : vs.length + us.length ≤ sizeLine := by rw [← l1.len, ← l2.len]; exact mx_le hz
      refine Fz.op_cat pins s σ H _ _ v u Q I rx ry ⟨a, b, vs, us, rfl, rfl, q1.t, q2.t, hz2, fun e => ?_, fun e => ?_, fun p _ hp => ?_⟩
      · subst e
        have e2 := repl_nil l1
        subst e2
        exact PV.now hw hs ⟨b, us, rfl, q2, l2⟩
      · subst e
        have e2 := repl_nil l2
        subst e2
        rw [List.append_nil] at hw
        exact PV.now hw hs ⟨a, vs, rfl, q1, l1⟩
      · exact hw _ _ ι (le_upd hp) (hs.extra hp) (repT hp (l1.app l2))
    · rw [if_neg hz] at hw; exact hw.elim
  · rename_i i j
    obtain ⟨a, rfl, h1⟩ := r1
    obtain ⟨b, rfl, h2⟩ := r2
    unfold addD at hw
    dsimp only at hw
    split at hw
    · rename_i xs ys e1 e2
      by_cases hz : xs.length + ys.length ≤ mx
      · rw [if_pos hz] at hw
        obtain ⟨vs, k1, l1⟩ := hs.obj i _ a e1 h1
        obtain ⟨us, k2, l2⟩ := hs.obj j _ b e2 h2
        refine op_cat pins s σ H _ _ v u Q I rx ry ⟨a, b, vs, us, rfl, rfl, k1, k2, by rw [← l1.len, ← l2.len]; exact mx_le hz, fun p hp => ?_⟩
        obtain ⟨s2, le2, rr⟩ := new_lst (w := ⟨X.K, tabs⟩) hs hp (l1.app l2)
        exact hw _ _ _ le2 s2 rr
      · rw [if_neg hz] at hw; exact hw.elim
    · exact hw.elim
theorem opd_mul : OpR X (binaryOp .Mult) (rOp ⟨X.K, tabs⟩ mulD) := by
  rintro pins s σ H x y v u Q I rx ry ⟨S, ι, d1, d2, hs, r1, r2, hw⟩
  cases d1 <;> cases d2 <;> first | exact False.elim hw | skip
  · cases r1; cases r2
    unfold mulD at hw
    try dsimp only at hw
    split at hw
    · rename_i hc
      exact op_mul pins s σ H _ _ v u Q I rx ry ⟨_, _, rfl, rfl, hc, PV.now hw hs rfl⟩
    · exact hw.elim
  · rename_i xs k
    obtain ⟨a, vs, rfl, q1, l1⟩ := r1
    cases r2
    unfold mulD at hw
    dsimp only at hw
    split at hw
    · rename_i hc
      refine Fz.op_mul pins s σ H _ _ v u Q I rx ry ⟨a, k, vs, rfl, rfl, q1.t, hc.1, hc.2.1, by rw [← l1.len]; exact hc.2.2, fun e => ?_, fun p _ hp => hw _ _ ι (le_upd hp) (hs.extra hp) (repT hp (rep_flat l1 _))⟩
      rcases e with e | e
      · subst e
        have e2 := repl_nil l1
        subst e2
        have e3 : (List.replicate k.toNat ([] : List D)).flatten = [] := by simp
        rw [e3] at hw
        exact PV.now hw hs ⟨a, [], rfl, q1, rfl⟩
      · subst e
        have e3 : (List.replicate (Int.toNat 1) xs).flatten = xs := by simp
        rw [e3] at hw
        exact PV.now hw hs ⟨a, vs, rfl, q1, l1⟩
    · exact hw.elim
  · rename_i r k
    obtain ⟨a, rfl, h1⟩ := r1
    cases r2
    unfold mulD at hw
    dsimp only at hw
    split at hw
    · rename_i xs e1
      split at hw
      · rename_i hc
        obtain ⟨vs, k1, l1⟩ := hs.obj r _ a e1 h1
        have hl : vs.length ≤ 1000 := by rw [← l1.len]; exact hc.2.2
        refine op_rep pins s σ H _ _ v u Q I rx ry ⟨a, k, vs, rfl, rfl, k1, by omega, by omega, ?_, fun p hp => ?_⟩
        · have h9 : k.toNat ≤ 1000 := by omega
          exact mx_le (Nat.le_trans (Nat.mul_le_mul hl h9) (by decide))
        · have rr : ∀ n, RepL X.K ι H (List.replicate n xs).flatten (List.replicate n vs).flatten := fun n => by
            induction n with
            | zero => exact rfl
            | succ n ih =>
              rw [List.replicate_succ, List.replicate_succ, List.flatten_cons, List.flatten_cons]
              exact l1.app ih
          obtain ⟨s2, le2, rr2⟩ := new_lst (w := ⟨X.K, tabs⟩) hs hp (rr k.toNat)
          exact hw _ _ _ le2 s2 rr2
      · exact hw.elim
    · exact hw.elim
theorem opd_fdiv : OpR X (binaryOp .FloorDiv) (rOp ⟨X.K, tabs⟩ fdivD) := by
  rintro pins s σ H x y v u Q I rx ry ⟨S, ι, d1, d2, hs, r1, r2, hw⟩
  cases d1 <;> cases d2 <;> first | exact False.elim hw | skip
  cases r1; cases r2
  unfold fdivD at hw
  try dsimp only at hw
  split at hw
  · rename_i hc
    exact op_fdiv pins s σ H _ _ v u Q I rx ry ⟨_, _, rfl, rfl, hc, PV.now hw hs rfl⟩
  · exact hw.elim
theorem opd_mod : OpR X (binaryOp .Mod) (rOp ⟨X.K, tabs⟩ modD) := by
  rintro pins s σ H x y v u Q I rx ry ⟨S, ι, d1, d2, hs, r1, r2, hw⟩
  cases d1 <;> cases d2 <;> first | exact False.elim hw | skip
  cases r1; cases r2
  unfold modD at hw
  try dsimp only at hw
  split at hw
  · rename_i hc
    exact op_mod pins s σ H _ _ v u Q I rx ry ⟨_, _, rfl, rfl, hc, PV.now hw hs rfl⟩
  · exact hw.elim
theorem opd_pow : OpR X (binaryOp .Pow) (rOp ⟨X.K, tabs⟩ powD) := by
  rintro pins s σ H x y v u Q I rx ry ⟨S, ι, d1, d2, hs, r1, r2, hw⟩
  cases d1 <;> cases d2 <;> first | exact False.elim hw | skip
  cases r1; cases r2
  unfold powD at hw
  try dsimp only at hw
  split at hw
  · rename_i hc
    exact op_pow pins s σ H _ _ v u Q I rx ry ⟨_, _, rfl, rfl, hc, PV.now hw hs rfl⟩
  · exact hw.elim
theorem und_neg : UnR X (unaryOp .USub) (rU1 ⟨X.K, tabs⟩ negD) := by
  rintro pins s σ H x v Q I rx ⟨S, ι, d1, hs, r1, hw⟩
  cases d1 <;> first | exact False.elim hw | skip
  cases r1
  exact un_neg pins s σ H _ v Q I rx ⟨_, rfl, PV.now hw hs rfl⟩
theorem ints_vals {K : PySem.W.Frag} {ι : List Addr} {H : Hp} : ∀ {ds : List D} {ns : List Int} {vs : List V}, ints? ds = some ns → RepL K ι H ds vs → vs = ns.map V.int
  | [], ns, vs, e, r => by
    cases e
    exact r
  | d :: ds, ns, vs, e, r => by
    obtain ⟨v, rr, rfl, q, w⟩ := r
    cases d <;> first | (cases e; done) | skip
    rename_i i
    unfold ints? at e
    obtain ⟨ms, e1, e2⟩ := Option.map_eq_some_iff.mp e
    subst e2
    cases q
    rw [ints_vals e1 w, List.map_cons]
theorem opd_lt (hu : X.A.units < cLine) : OpR X (compareOp .Lt) (rOp ⟨X.K, tabs⟩ ltD) := by
  rintro pins s σ H x y v u Q I rx ry ⟨S, ι, d1, d2, hs, r1, r2, hw⟩
  cases d1 <;> cases d2 <;> first | exact False.elim hw | skip
  · cases r1; cases r2
    exact op_lt pins s σ H _ _ v u Q I rx ry ⟨_, _, rfl, rfl, PV.now hw hs rfl⟩
  · obtain ⟨a, vs, rfl, q1, l1⟩ := r1
    obtain ⟨b, us, rfl, q2, l2⟩ := r2
    unfold ltD at hw
    dsimp only at hw
    split at hw
    · rename_i ns ms e1 e2
      have z1 := ints_vals e1 l1
      have z2 := ints_vals e2 l2
      subst z1 z2
      exact op_ltT hu pins s σ H _ _ v u Q I rx ry ⟨a, b, ns, ms, rfl, rfl, q1.t, q2.t, PV.now hw hs rfl⟩
    · exact hw.elim
theorem opd_le : OpR X (compareOp .LtE) (rOp ⟨X.K, tabs⟩ leD) := by
  rintro pins s σ H x y v u Q I rx ry ⟨S, ι, d1, d2, hs, r1, r2, hw⟩
  cases d1 <;> cases d2 <;> first | exact False.elim hw | skip
  cases r1; cases r2
  exact op_le pins s σ H _ _ v u Q I rx ry ⟨_, _, rfl, rfl, PV.now hw hs rfl⟩
theorem opd_gt : OpR X (compareOp .Gt) (rOp ⟨X.K, tabs⟩ gtD) := by
  rintro pins s σ H x y v u Q I rx ry ⟨S, ι, d1, d2, hs, r1, r2, hw⟩
  cases d1 <;> cases d2 <;> first | exact False.elim hw | skip
  cases r1; cases r2
  exact op_gt pins s σ H _ _ v u Q I rx ry ⟨_, _, rfl, rfl, PV.now hw hs rfl⟩
theorem opd_ge : OpR X (compareOp .GtE) (rOp ⟨X.K, tabs⟩ geD) := by
  rintro pins s σ H x y v u Q I rx ry ⟨S, ι, d1, d2, hs, r1, r2, hw⟩
  cases d1 <;> cases d2 <;> first | exact False.elim hw | skip
  cases r1; cases r2
  exact op_ge pins s σ H _ _ v u Q I rx ry ⟨_, _, rfl, rfl, PV.now hw hs rfl⟩
end
end Dv

namespace Dv
open PySem PySem.Spec PyProof.Rows L2
section
variable {X : Cx} {tabs : List Tb}

/-! ### as data -/
mutual
theorem toP_dp {K : PySem.W.Frag} {ι : List Addr} {H : Hp} {S : Sto} (hs : SRep K tabs ι S H) : ∀ (n : Nat) (d : D) (p : PyData) (v : V), toP S n d = some p → Rep K ι H d v → Dp K H v p
  | 0, _, _, _, e, _ => by cases e
  | n + 1, .non, p, v, e, r => by cases e; cases r; exact .non
  | n + 1, .bl b, p, v, e, r => by cases e; cases r; exact .bl b
  | n + 1, .int i, p, v, e, r => by cases e; cases r; exact .int i
  | n + 1, .str x, p, v, e, r => by cases e; cases r; exact .str x
  | n + 1, .tup ds, p, v, e, r => by
    obtain ⟨a, vs, rfl, q, l⟩ := r
    unfold toP at e
    obtain ⟨ps, e1, rfl⟩ := Option.map_eq_some_iff.mp e
    exact .tup q.t (toPs_dp hs n ds ps vs e1 l)
  | n + 1, .ref i, p, v, e, r => by
    obtain ⟨a, rfl, q⟩ := r
    unfold toP at e
    split at e
    · rename_i b ds e0
      obtain ⟨ps, e1, rfl⟩ := Option.map_eq_some_iff.mp e
      obtain ⟨a', vs, ha, hq, l⟩ := hs.list e0
      rw [q] at ha
      cases ha
      exact .lst hq (toPs_dp hs n ds ps vs e1 l)
    · cases e
theorem toPs_dp {K : PySem.W.Frag} {ι : List Addr} {H : Hp} {S : Sto} (hs : SRep K tabs ι S H) : ∀ (n : Nat) (ds : List D) (ps : List PyData) (vs : List V), toPs S n ds = some ps → RepL K ι H ds vs → DpAll K H vs ps
  | n, [], ps, vs, e, r => by
    have r : vs = [] := r
    subst r
    have e2 : ps = [] := by cases n <;> (cases e; rfl)
    subst e2
    exact .nil
  | 0, _ :: _, _, _, e, _ => by cases e
  | n + 1, d :: ds, ps, vs, e, r => by
    obtain ⟨v, rr, rfl, q, l⟩ := r
    unfold toPs at e
    split at e
    · rename_i p qs e1 e2
      cases e
      exact .cons (toP_dp hs n d p v e1 q) (toPs_dp hs n ds qs rr e2 l)
    · cases e
end
theorem eqS_v {K : PySem.W.Frag} {ι : List Addr} {H : Hp} {d e : D} {b : Bool} {x y : V} (h : eqS d e = some b) (r1 : Rep K ι H d x) (r2 : Rep K ι H e y) : scal x y = true ∧ decide (x = y) = b := by
  cases d <;> cases e <;> first | (cases h; done) | skip
  all_goals (cases r1; cases r2; cases h; refine ⟨rfl, ?_⟩; simp)
theorem eqB_or {K : PySem.W.Frag} {ι : List Addr} {H : Hp} {S : Sto} {d e : D} {b : Bool} {x y : V} (hs : SRep K tabs ι S H) (h : eqB d e S = some b) (r1 : Rep K ι H d x) (r2 : Rep K ι H e y) :
    (scal x y = true ∧ decide (x = y) = b) ∨ ∃ p q, Dp K H x p ∧ Dp K H y q ∧ SeqAt.shaped p = true ∧ SeqAt.shaped q = true ∧ PyData.eqv p q = b := by
  unfold eqB at h
  split at h
  · rename_i b' e1
    cases h
    exact .inl (eqS_v e1 r1 r2)
  · split at h
    · rename_i p q e1 e2
      split at h
      · rename_i hc
        cases h
        exact .inr ⟨p, q, toP_dp hs _ _ _ _ e1 r1, toP_dp hs _ _ _ _ e2 r2, hc.1, hc.2, rfl⟩
      · cases h
    · cases h
theorem opd_eq (hu : X.A.units + 64 < cLine) : OpR X (compareOp .Eq) (rOp ⟨X.K, tabs⟩ eqD) := by
  rintro pins s σ H x y v u Q I rx ry ⟨S, ι, d1, d2, hs, r1, r2, hw⟩
  unfold eqD at hw
  split at hw
  · rename_i b e
    rcases eqB_or hs e r1 r2 with ⟨h1, h2⟩ | ⟨p, q, h1, h2, h3, h4, h5⟩
    · exact op_eq pins s σ H x y v u Q I rx ry ⟨h1, by rw [h2]; exact PV.now hw hs rfl⟩
    · exact op_eqD hu pins s σ H x y v u Q I rx ry ⟨p, q, h1, h2, h3, h4, by rw [h5]; exact PV.now hw hs rfl⟩
  · exact hw.elim
theorem opd_ne (hu : X.A.units + 64 < cLine) : OpR X (compareOp .NotEq) (rOp ⟨X.K, tabs⟩ neD) := by
  rintro pins s σ H x y v u Q I rx ry ⟨S, ι, d1, d2, hs, r1, r2, hw⟩
  unfold neD at hw
  split at hw
  · rename_i b e
    rcases eqB_or hs e r1 r2 with ⟨h1, h2⟩ | ⟨p, q, h1, h2, h3, h4, h5⟩
    · exact op_ne pins s σ H x y v u Q I rx ry ⟨h1, by rw [h2]; exact PV.now hw hs rfl⟩
    · exact op_neD hu pins s σ H x y v u Q I rx ry ⟨p, q, h1, h2, h3, h4, by rw [h5]; exact PV.now hw hs rfl⟩
  · exact hw.elim
theorem rep_non {K : PySem.W.Frag} {ι : List Addr} {H : Hp} {d : D} {x : V} (r : Rep K ι H d x) : decide (x = V.non) = (match d with | .non => true | _ => false) := by
  cases d with
  | non => cases r; rfl
  | bl b => cases r; rfl
  | int b => cases r; rfl
  | str b => cases r; rfl
  | tup b => obtain ⟨a, vs, rfl, _⟩ := r; rfl
  | ref b => obtain ⟨a, rfl, _⟩ := r; rfl
theorem opd_is : OpR X (compareOp .Is) (rOp ⟨X.K, tabs⟩ isND) := by
  rintro pins s σ H x y v u Q I rx ry ⟨S, ι, d1, d2, hs, r1, r2, hw⟩
  cases d2 with
  | non =>
    cases r2
    refine op_isN pins s σ H x _ v u Q I rx ry ⟨rfl, ?_⟩
    rw [rep_non r1]
    cases d1 <;> exact PV.now hw hs rfl
  | bl b =>
    cases r2
    cases (show u = Value.bool b from ry)
    cases d1 with
    | bl a => cases r1; exact op_isBl pins s σ H _ (.bl b) v _ Q I rx rfl ⟨_, _, rfl, rfl, PV.now hw hs rfl⟩
    | non => cases r1; cases (show v = Value.none from rx); exact wpAny_is_other rfl (fun z => by cases z) ⟨.bl false, H, I, rfl, PV.now hw hs rfl⟩
    | int i => cases r1; obtain ⟨t, rfl⟩ := rx; exact wpAny_is_other rfl (fun z => by cases z) ⟨.bl false, H, I, rfl, PV.now hw hs rfl⟩
    | str i => cases r1; obtain ⟨t, rfl⟩ := rx; exact wpAny_is_other rfl (fun z => by cases z) ⟨.bl false, H, I, rfl, PV.now hw hs rfl⟩
    | tup xs => obtain ⟨a, vs, rfl, _⟩ := r1; cases (show v = Value.ref a from rx); exact wpAny_is_other rfl (fun z => by cases z) ⟨.bl false, H, I, rfl, PV.now hw hs rfl⟩
    | ref i => obtain ⟨a, rfl, _⟩ := r1; cases (show v = Value.ref a from rx); exact wpAny_is_other rfl (fun z => by cases z) ⟨.bl false, H, I, rfl, PV.now hw hs rfl⟩
  | _ => cases d1 <;> exact False.elim hw
theorem opd_isn : OpR X (compareOp .IsNot) (rOp ⟨X.K, tabs⟩ isnD) := by
  rintro pins s σ H x y v u Q I rx ry ⟨S, ι, d1, d2, hs, r1, r2, hw⟩
  cases d2 with
  | non =>
    cases r2
    refine op_notN pins s σ H x _ v u Q I rx ry ⟨rfl, ?_⟩
    rw [rep_non r1]
    cases d1 <;> exact PV.now hw hs rfl
  | bl b =>
    cases r2
    cases (show u = Value.bool b from ry)
    cases d1 with
    | bl a => cases r1; exact op_notBl pins s σ H _ (.bl b) v _ Q I rx rfl ⟨_, _, rfl, rfl, PV.now hw hs rfl⟩
    | non => cases r1; cases (show v = Value.none from rx); exact wpAny_isNot_other rfl (fun z => by cases z) ⟨.bl true, H, I, rfl, PV.now hw hs rfl⟩
    | int i => cases r1; obtain ⟨t, rfl⟩ := rx; exact wpAny_isNot_other rfl (fun z => by cases z) ⟨.bl true, H, I, rfl, PV.now hw hs rfl⟩
    | str i => cases r1; obtain ⟨t, rfl⟩ := rx; exact wpAny_isNot_other rfl (fun z => by cases z) ⟨.bl true, H, I, rfl, PV.now hw hs rfl⟩
    | tup xs => obtain ⟨a, vs, rfl, _⟩ := r1; cases (show v = Value.ref a from rx); exact wpAny_isNot_other rfl (fun z => by cases z) ⟨.bl true, H, I, rfl, PV.now hw hs rfl⟩
    | ref i => obtain ⟨a, rfl, _⟩ := r1; cases (show v = Value.ref a from rx); exact wpAny_isNot_other rfl (fun z => by cases z) ⟨.bl true, H, I, rfl, PV.now hw hs rfl⟩
  | _ => cases d1 <;> exact False.elim hw

/-! ### subscripts -/
theorem itemsD_v {K : PySem.W.Frag} {ι : List Addr} {H : Hp} {S : Sto} {d : D} {xs : List D} {x : V} (hs : SRep K tabs ι S H) (h : itemsD d S = some xs) (r : Rep K ι H d x) :
    ∃ a vs, x = .ref a ∧ RepL K ι H xs vs ∧ ((∃ ys, d = .tup ys ∧ SqN K H a vs) ∨ (∃ i w, d = .ref i ∧ S[i]? = some (.lst w xs) ∧ SqL K H a vs)) := by
  cases d <;> first | (cases h; done) | skip
  · cases h
    obtain ⟨a, vs, rfl, q, l⟩ := r
    exact ⟨a, vs, rfl, l, .inl ⟨_, rfl, q⟩⟩
  · rename_i i
    unfold itemsD at h
    dsimp only at h
    split at h
    · rename_i b ys e
      cases h
      obtain ⟨a, rfl, q⟩ := r
      obtain ⟨a', vs, ha, hq, l⟩ := hs.list e
      rw [q] at ha
      cases ha
      exact ⟨a, vs, rfl, l, .inr ⟨i, b, rfl, e, hq⟩⟩
    · cases h
theorem atI_rep {K : PySem.W.Frag} {ι : List Addr} {H : Hp} {xs : List D} {vs : List V} {k : Int} {x : D} (l : RepL K ι H xs vs) (h : atI xs k = some x) : ∃ v, atI vs k = some v ∧ Rep K ι H x v := by
  unfold atI at h ⊢
  rw [l.len] at h
  cases e : ixN vs.length k with
  | none => rw [e] at h; cases h
  | some j =>
    rw [e] at h
    obtain ⟨v, h1, h2⟩ := l.get h
    exact ⟨v, h1, h2⟩
theorem ixd : IxR X (rOp ⟨X.K, tabs⟩ ixD) := by
  rintro value slice pins s σ H x y v u Q I rx ry ⟨S, ι, d1, d2, hs, r1, r2, hw⟩ hp
  unfold ixD at hw
  split at hw
  · rename_i xs k e1
    cases r2
    split at hw
    · rename_i z e2
      obtain ⟨a, vs, rfl, l, hc⟩ := itemsD_v hs e1 r1
      obtain ⟨vz, h1, h2⟩ := atI_rep l e2
      rcases hc with ⟨ys, _, q⟩ | ⟨i, b, _, _, q⟩
      · exact ix_tup value slice pins s σ H _ _ v u Q I rx ry ⟨a, vs, k, vz, rfl, rfl, q.t, h1, PV.now hw hs h2⟩ hp
      · exact ix_list value slice pins s σ H _ _ v u Q I rx ry ⟨a, vs, k, vz, rfl, rfl, q, h1, PV.now hw hs h2⟩ hp
    · exact hw.elim
  · exact hw.elim

/-! ### slices -/
def cutD (xs : List D) (lo hi : Option Int) : List D := (xs.drop (HT.sIx xs.length 0 lo)).take (HT.sIx xs.length xs.length hi - HT.sIx xs.length 0 lo)
def slD (d : D) (lo hi : Option Int) (S : Sto) : R D := match itemsD d S with
  | some xs => if xs.length ≤ mx then (match d with
    | .tup _ => .ok (.tup (cutD xs lo hi)) S
    | _ => .ok (.ref S.length) (S ++ [.lst true (cutD xs lo hi)])) else .no
  | none => .no
def rSlD (w : Wn) : V → Option Int → Option Int → Hp → VK → Prop := fun x lo hi H Q => ∃ S ι d, SRep w.K w.tabs ι S H ∧ Rep w.K ι H d x ∧ (slD d lo hi S).wp (PV w ι H Q) (fun _ _ => False)
theorem cut_rep {K : PySem.W.Frag} {ι : List Addr} {H : Hp} {xs : List D} {vs : List V} (l : RepL K ι H xs vs) (lo hi : Option Int) : RepL K ι H (cutD xs lo hi) (cutV vs lo hi) := by
  unfold cutD cutV
  rw [l.len]
  exact (l.drop _).take _
theorem sld : SlR X (rSlD ⟨X.K, tabs⟩) := by
  rintro pins s σ H x v vl vu lo hi sl Q I rx h1 h2 h3 ⟨S, ι, d, hs, r, hw⟩
  unfold slD at hw
  split at hw
  · rename_i xs e1
    obtain ⟨a, vs, rfl, l, hc⟩ := itemsD_v hs e1 r
    by_cases hz : xs.length ≤ mx
    · rw [if_pos hz] at hw
      rcases hc with ⟨ys, rfl, q⟩ | ⟨i, b, rfl, e0, q⟩
      · cases e1
        refine Fz.sl_cut pins s σ H _ v vl vu lo hi sl Q I rx h1 h2 h3 ⟨a, vs, rfl, q.t, fun hall => ?_, fun p _ hp => ?_⟩
        · have e : cutD xs lo hi = xs := by
            unfold cutD
            rw [← l.len] at hall
            rw [hall.1, hall.2]
            simp
          rw [e] at hw
          exact PV.now hw hs ⟨a, vs, rfl, q, l⟩
        · exact hw _ _ ι (le_upd hp) (hs.extra hp) (repT hp (cut_rep l lo hi))
      · refine sl_list pins s σ H _ v vl vu lo hi sl Q I rx h1 h2 h3 ⟨a, vs, rfl, q, fun p hp => ?_⟩
        obtain ⟨s2, le2, rr2⟩ := new_lst (w := ⟨X.K, tabs⟩) hs hp (cut_rep l lo hi)
        exact hw _ _ _ le2 s2 rr2
    · rw [if_neg hz] at hw; exact hw.elim
  · exact hw.elim

/-! ### calls of built-ins -/
def lenD : OpN
  | [.str x], S => if x.length ≤ mx then .ok (.int x.length) S else .no
  | [d], S => match itemsD d S with
    | some xs => .ok (.int xs.length) S
    | none => .no
  | _, _ => .no
theorem repl1 {K : PySem.W.Frag} {ι : List Addr} {H : Hp} {d : D} {vs : List V} (r : RepL K ι H [d] vs) : ∃ v, vs = [v] ∧ Rep K ι H d v := by
  obtain ⟨v, r', rfl, q, w⟩ := r
  have w : r' = [] := w
  subst w
  exact ⟨v, rfl, q⟩
theorem repl2 {K : PySem.W.Frag} {ι : List Addr} {H : Hp} {d e : D} {vs : List V} (r : RepL K ι H [d, e] vs) : ∃ v u, vs = [v, u] ∧ Rep K ι H d v ∧ Rep K ι H e u := by
  obtain ⟨v, r', rfl, q, w⟩ := r
  obtain ⟨u, rfl, w2⟩ := repl1 w
  exact ⟨v, u, rfl, q, w2⟩
theorem crd_len : CallR X (.builtin "len") (rCl ⟨X.K, tabs⟩ lenD) := by
  rintro pins s σ H xs us Q I rx ⟨S, ι, ds, hs, r, hw⟩
  unfold lenD at hw
  split at hw
  · rename_i x
    obtain ⟨v, rfl, q⟩ := repl1 r
    cases q
    split at hw
    · rename_i hz
      exact call_len_str pins s σ H _ us Q I rx ⟨x, rfl, mx_le hz, PV.now hw hs rfl⟩
    · exact hw.elim
  · rename_i d _
    obtain ⟨v, rfl, q⟩ := repl1 r
    split at hw
    · rename_i ys e
      obtain ⟨a, vs, rfl, l, hc⟩ := itemsD_v hs e q
      refine call_len_seq pins s σ H _ us Q I rx ⟨a, vs, rfl, ?_, ?_⟩
      · rcases hc with ⟨_, _, q2⟩ | ⟨_, _, _, _, q2⟩
        · exact .inr q2.t
        · exact .inl q2
      · rw [← l.len]
        exact PV.now hw hs rfl
    · exact hw.elim
  · exact hw.elim
def absD : OpN
  | [.int i], S => .ok (.int (if i < 0 then -i else i)) S
  | _, _ => .no
theorem crd_abs : CallR X (.builtin "abs") (rCl ⟨X.K, tabs⟩ absD) := by
  rintro pins s σ H xs us Q I rx ⟨S, ι, ds, hs, r, hw⟩
  unfold absD at hw
  split at hw
  · obtain ⟨v, rfl, q⟩ := repl1 r
    cases q
    exact call_abs pins s σ H _ us Q I rx ⟨_, rfl, PV.now hw hs rfl⟩
  · exact hw.elim
def minD : OpN
  | [.int i, .int j], S => .ok (.int (if j < i then j else i)) S
  | _, _ => .no
def maxD : OpN
  | [.int i, .int j], S => .ok (.int (if j > i then j else i)) S
  | _, _ => .no
theorem crd_min (hc : X.calm = true) : CallR X (.builtin "min") (rCl ⟨X.K, tabs⟩ minD) := by
  rintro pins s σ H xs us Q I rx ⟨S, ι, ds, hs, r, hw⟩
  unfold minD at hw
  split at hw
  · obtain ⟨v, u, rfl, q1, q2⟩ := repl2 r
    cases q1; cases q2
    exact call_min2 hc pins s σ H _ us Q I rx ⟨_, _, rfl, PV.now hw hs rfl⟩
  · exact hw.elim
def tupleD : OpN
  | [d], S => match itemsD d S with
    | some xs => if xs.length ≤ mx then .ok (.tup xs) S else .no
    | none => .no
  | _, _ => .no
theorem crd_tuple : CallR X (.type "tuple") (rCl ⟨X.K, tabs⟩ tupleD) := by
  rintro pins s σ H xs us Q I rx ⟨S, ι, ds, hs, r, hw⟩
  unfold tupleD at hw
  split at hw
  · obtain ⟨v, rfl, q⟩ := repl1 r
    split at hw
    · rename_i d ys e
      obtain ⟨a, vs, rfl, l, hc⟩ := itemsD_v hs e q
      split at hw
      · refine Fz.call_tup pins s σ H _ us Q I rx ⟨a, vs, rfl, ?_⟩
        rcases hc with ⟨_, rfl, q2⟩ | ⟨_, _, _, _, q2⟩
        · cases e
          exact .inr ⟨q2.t, PV.now hw hs ⟨a, vs, rfl, q2, l⟩⟩
        · exact .inl ⟨q2, fun p _ hp => hw _ _ ι (le_upd hp) (hs.extra hp) (repT hp l)⟩
      · exact hw.elim
    · exact hw.elim
  · exact hw.elim
def listD : OpN
  | [d], S => match itemsD d S with
    | some xs => if xs.length ≤ mx then .ok (.ref S.length) (S ++ [.lst true xs]) else .no
    | none => .no
  | _, _ => .no
theorem crd_list : CallR X (.type "list") (rCl ⟨X.K, tabs⟩ listD) := by
  rintro pins s σ H xs us Q I rx ⟨S, ι, ds, hs, r, hw⟩
  unfold listD at hw
  split at hw
  · obtain ⟨v, rfl, q⟩ := repl1 r
    split at hw
    · rename_i d ys e
      obtain ⟨a, vs, rfl, l, hc⟩ := itemsD_v hs e q
      split at hw
      · refine call_list_of pins s σ H _ us Q I rx ⟨a, vs, rfl, ?_, fun p hp => ?_⟩
        · rcases hc with ⟨_, _, q2⟩ | ⟨_, _, _, _, q2⟩
          · exact .inr q2.t
          · exact .inl q2
        · obtain ⟨s2, le2, rr2⟩ := new_lst (w := ⟨X.K, tabs⟩) hs hp l
          exact hw _ _ _ le2 s2 rr2
      · exact hw.elim
    · exact hw.elim
  · exact hw.elim

/-! ### isinstance -/
inductive Kd where
  | non | bl | int | str | tup | lst | dct | oth
def Kd.nm : Kd → String
  | .non => "NoneType" | .bl => "bool" | .int => "int" | .str => "str" | .tup => "tuple" | .lst => "list" | .dct => "dict" | .oth => "NoneType"
/-- the kind of a thing -/
def kdOf (d : D) (S : Sto) : Kd := match d with
  | .non => .non
  | .bl _ => .bl
  | .int _ => .int
  | .str _ => .str
  | .tup _ => .tup
  | .ref i => match S[i]? with
    | some (.dk _) => .dct
    | some (.dt _) => .dct
    | some (.dn _) => .dct
    | some (.ob _ _) => .oth
    | some (.xc _ _) => .oth
    | _ => .lst
/-- the types that are asked for -/
inductive Ty where
  | bl | int | str | tup | lst | dct
def Ty.nm : Ty → String
  | .bl => "bool" | .int => "int" | .str => "str" | .tup => "tuple" | .lst => "list" | .dct => "dict"
def isK : Kd → Ty → Bool
  | .bl, .bl => true | .bl, .int => true | .int, .int => true | .str, .str => true | .tup, .tup => true | .lst, .lst => true | .dct, .dct => true
  | _, _ => false
theorem isK_kit (k : Kd) (t : Ty) : kitB k.nm t.nm = some (isK k t) := by
  cases k <;> cases t <;> decide +kernel
theorem kd_x {K : PySem.W.Frag} {ι : List Addr} {H : Hp} {S : Sto} {d : D} {x : V} (hs : SRep K tabs ι S H) (r : Rep K ι H d x) : ∃ t, Gn.TyW K H x t ∧ ∀ T : Ty, PySem.W.kitOne K t (.type T.nm) = some (isK (kdOf d S) T) := by
  have mk : ∀ k : Kd, Gk.TyZ K H x (.type k.nm) → ∃ t, Gn.TyW K H x t ∧ ∀ T : Ty, PySem.W.kitOne K t (.type T.nm) = some (isK k T) := fun k h => ⟨_, .inl h, fun T => kit_ty (isK_kit k T)⟩
  cases d with
  | non => cases r; exact mk .non (.inl (.base .non))
  | bl b => cases r; exact mk .bl (.inl (.base (.bl b)))
  | int b => cases r; exact mk .int (.inl (.base (.int b)))
  | str b => cases r; exact mk .str (.inl (.base (.str b)))
  | tup b =>
    obtain ⟨a, vs, rfl, ⟨o, q, _⟩ | ⟨o, its, n, q, hc, _⟩, _⟩ := r
    · exact mk .tup (.inl (.fTuple q))
    · exact mk .tup (.inl (.kTuple q hc))
  | ref i =>
    obtain ⟨a, rfl, q⟩ := r
    have hi : i < S.length := by rw [hs.len]; exact (List.getElem?_eq_some_iff.mp q).1
    have e := List.getElem?_eq_getElem hi
    have ho := hs.obj i _ a e q
    unfold kdOf
    dsimp only
    rw [e]
    generalize S[i] = o at ho
    cases o with
    | lst w ds =>
      cases w with
      | true =>
        obtain ⟨vs, k, _⟩ := ho
        exact mk .lst (.inl (.base (.lst k)))
      | false =>
        obtain ⟨vs, ⟨o, k⟩ | ⟨o, its, n, k, hc, _⟩, _⟩ := ho
        · exact mk .lst (.inl (.base (.frz k)))
        · exact mk .lst (.inl (.kList k hc))
    | dk kvs =>
      obtain ⟨ws, k, _⟩ := ho
      exact mk .dct (.inl (.base (.dK k)))
    | dt kvs =>
      obtain ⟨ws, k, _⟩ := ho
      exact mk .dct (.inr ⟨_, _, rfl, k, rfl⟩)
    | dn kvs =>
      obtain ⟨ws, k, _⟩ := ho
      exact ⟨_, .inr (.inl ⟨_, _, rfl, k, rfl⟩), fun T => kit_ty (isK_kit .dct T)⟩
    | xc x j =>
      obtain ⟨C, h1, _, F⟩ := ho
      refine ⟨.ref C, .inr (.inr ⟨_, _, rfl, h1, F.e, rfl⟩), fun T => ?_⟩
      cases T
      · exact F.k1
      · exact F.k2
      · exact F.k3
      · exact F.k4
      · exact F.k5
      · exact F.k6
    | ob c fs =>
      obtain ⟨C, dx, ws, k, _, z, _⟩ := ho
      refine ⟨.ref C, .inl (.inl (.base (.ins k z.cl z.ha z.hn z.ht z.hm))), fun T => ?_⟩
      cases T
      · exact z.k1
      · exact z.k2
      · exact z.k3
      · exact z.k4
      · exact z.k5
      · exact z.k6
end
end Dv

namespace Dv
open PySem PySem.Spec PyProof.Rows L2

/-! ### truth -/
def truD (d : D) (S : Sto) : Option Bool := match d with
  | .non => some false
  | .bl b => some b
  | .int i => some (i != 0)
  | .str x => if x.length ≤ mx then some ((x.length : Int) != 0) else none
  | .tup xs => some (!xs.isEmpty)
  | .ref i => match S[i]? with
    | some (.lst _ xs) => some (!xs.isEmpty)
    | some (.dk kvs) => some (!kvs.isEmpty)
    | some (.dt _) => none
    | some (.dn _) => none
    | some (.ob _ _) => none
    | some (.xc _ _) => none
    | none => none
section
variable {X : Cx} {tabs : List Tb}
theorem repl_emp {K : PySem.W.Frag} {ι : List Addr} {H : Hp} {ds : List D} {vs : List V} (l : RepL K ι H ds vs) : ds.isEmpty = vs.isEmpty := by
  have e := l.len
  cases ds <;> cases vs <;> first | rfl | (simp at e)
theorem truD_v {K : PySem.W.Frag} {ι : List Addr} {H : Hp} {S : Sto} {d : D} {b : Bool} {x : V} (hs : SRep K tabs ι S H) (h : truD d S = some b) (r : Rep K ι H d x) : TruV K x H b := by
  cases d with
  | non => cases h; cases r; exact rfl
  | bl b => cases h; cases r; exact rfl
  | int b => cases h; cases r; exact rfl
  | str y =>
    cases r
    unfold truD at h
    dsimp only at h
    split at h
    · rename_i hz
      cases h
      exact ⟨mx_le hz, rfl⟩
    · cases h
  | tup xs =>
    cases h
    obtain ⟨a, vs, rfl, q, l⟩ := r
    exact .inr (.inl ⟨vs, q.t, by rw [repl_emp l]⟩)
  | ref i =>
    obtain ⟨a, rfl, q⟩ := r
    unfold truD at h
    dsimp only at h
    split at h
    · rename_i w ds e
      cases h
      obtain ⟨a', vs, ha, hq, l⟩ := hs.list e
      rw [q] at ha
      cases ha
      exact .inl ⟨vs, hq, by rw [repl_emp l]⟩
    · rename_i kvs e
      cases h
      obtain ⟨ws, k, k2, _⟩ := hs.obj i _ a e q
      refine .inr (.inr ⟨ws, k, ?_⟩)
      have el : kvs.length = ws.length := by simpa using congrArg List.length k2
      cases kvs <;> cases ws <;> first | rfl | (simp at el)
    · cases h
    · cases h
    · cases h
    · cases h
    · cases h
end

/-! ### tests -/
def dTru (a : Den) : DenT := fun lv ρ S => (a lv ρ S).bind fun x S1 => match truD x S1 with
  | some b => .ok b S1
  | none => .no
def dBl (a : Den) : DenT := fun lv ρ S => (a lv ρ S).bind fun x S1 => match x with
  | .bl b => .ok b S1
  | _ => .no
def dAndT (a b : DenT) : DenT := fun lv ρ S => (a lv ρ S).bind fun x S1 => if x = true then b lv ρ S1 else .ok false S1
def dOrT (a b : DenT) : DenT := fun lv ρ S => (a lv ρ S).bind fun x S1 => if x = true then .ok true S1 else b lv ρ S1
def dNotT (a : DenT) : DenT := fun lv ρ S => (a lv ρ S).bind fun x S1 => .ok (!x) S1
def dIte (c : DenT) (a b : Den) : Den := fun lv ρ S => (c lv ρ S).bind fun x S1 => if x = true then a lv ρ S1 else b lv ρ S1
def dAndV (a b : Den) : Den := fun lv ρ S => (a lv ρ S).bind fun x S1 => match x with
  | .bl true => b lv ρ S1
  | .bl false => .ok (.bl false) S1
  | _ => .no
def dOrV (a b : Den) : Den := fun lv ρ S => (a lv ρ S).bind fun x S1 => match x with
  | .bl true => .ok (.bl true) S1
  | .bl false => b lv ρ S1
  | _ => .no
section
variable {X : Cx} {w : Wn} {EX : EXT} {lv : Lv} {a b c : Expr} {da db : Den} {ta tb tc : DenT} {pos : Pos}
theorem PB.now {ι : List Addr} {H : Hp} {S : Sto} {Q : Bool → Hp → Prop} {x : Bool} (h : PB w ι H Q x S) (hs : SRep w.K w.tabs ι S H) : Q x H := h H ι (Le.refl _ _) hs
theorem td_tru {tabs : List Tb} (ha : PE X a (semE ⟨X.K, tabs⟩ EX lv da)) (he : ∀ whole, isTrue a X.env whole = (do let v ← whole; standAt a.pos; holding [v] (truthy v))) : PT X a (semT ⟨X.K, tabs⟩ EX lv (dTru da)) := by
  refine PT.imp (pt_truth ha he) fun σ H Q h => ?_
  obtain ⟨ρ, S, ι, h1, hs, hw⟩ := h
  refine stepE (Po := fun ι H => PB ⟨X.K, tabs⟩ ι H Q) h1 hs (fun l q => q.mono l) hw fun x S1 v H1 ι1 l1 s1 r1 e1 h1 => ?_
  cases e : truD x S1 with
  | none => rw [e] at h1; exact h1.elim
  | some b =>
    rw [e] at h1
    exact ⟨b, truD_v s1 e r1, PB.now h1 s1⟩
/-- a value that is a truth, as a test (a comparison) -/
theorem td_cmp {op : CmpOp} {o : Op2} (ho : OpR X (compareOp op) (rOp w o)) (ha : PE X a (semE w EX lv da)) (hb : PE X b (semE w EX lv db)) (hm : behindInMarks op b = false) : PT X (.Compare a [op] [b] pos) (semT w EX lv (dBl (dOp o da db))) := by
  refine PT.imp (pt_cmpR ho ha hb hm) fun σ H Q h => ?_
  obtain ⟨ρ, S, ι, h1, hs, hw⟩ := h
  show semE w EX lv da σ H _
  have hw2 : ((da lv ρ S).bind fun x S1 => (db lv ρ S1).bind fun y S2 => (quiet (o x y S2)).bind fun x S1 => match x with | .bl b => R.ok b S1 | _ => R.no).wp (PB w ι H Q) (PX w EX ι H σ) := by
    have e : ∀ {α β γ : Type} (x : R α) (f : α → Sto → R β) (g : β → Sto → R γ), (x.bind f).bind g = x.bind fun a S => (f a S).bind g := fun x f g => by cases x <;> rfl
    unfold dBl dOp at hw
    rw [e] at hw
    have e3 : (fun a S => ((db lv ρ S).bind fun y S2 => quiet (o a y S2)).bind fun x S1 => match x with | .bl b => R.ok b S1 | _ => R.no) = fun x S1 => (db lv ρ S1).bind fun y S2 => (quiet (o x y S2)).bind fun x S1 => match x with | .bl b => R.ok b S1 | _ => R.no := by
      funext a S
      rw [e]
    rw [e3] at hw
    exact hw
  refine stepE (Po := fun ι H => PB w ι H Q) h1 hs (fun l q => q.mono l) hw2 fun x S1 v H1 ι1 l1 s1 r1 e1 h1 => ?_
  refine stepE (Po := fun ι H => PB w ι H Q) e1 s1 (fun l q => q.mono l) h1 fun y S2 u H2 ι2 l2 s2 r2 e2 h2 => ?_
  refine ⟨S2, ι2, x, y, s2, Rep.mono l2 x v r1, r2, ?_⟩
  refine R.wp_mono (quiet_wp (R.wp_bind.mp h2)) (fun z S3 hz => ?_) fun _ _ f => f
  intro v3 H3 ι3 l3 s3 r3
  cases z <;> first | exact False.elim hz | skip
  cases r3
  exact ⟨_, rfl, hz H3 ι3 l3 s3⟩
theorem td_not (ha : PT X a (semT w EX lv ta)) : PT X (.UnaryOp .Not a pos) (semT w EX lv (dNotT ta)) := by
  refine PT.imp (pt_not ha) fun σ H Q h => ?_
  obtain ⟨ρ, S, ι, h1, hs, hw⟩ := h
  exact stepT (Po := fun ι H => PB w ι H Q) h1 hs (fun l q => q.mono l) hw fun x S1 H1 ι1 l1 s1 e1 h1 => PB.now h1 s1
theorem pw_imp {e : Expr} {t t' : TT} (h : PW X e t) (i : ∀ σ H Q, t' σ H Q → t σ H Q) : PW X e t' := ⟨fun wh pins s σ H Q I q => h.run wh pins s σ H Q I (i σ H Q q)⟩
theorem td_and1 (ha : PT X a (semT w EX lv ta)) : PW X (.BoolOp .And [a] pos) (semT w EX lv ta) := pw_and1 ha
theorem td_or1 (ha : PT X a (semT w EX lv ta)) : PW X (.BoolOp .Or [a] pos) (semT w EX lv ta) := pw_or1 ha
theorem td_and {rest : List Expr} (ha : PT X a (semT w EX lv ta)) (hb : PW X (.BoolOp .And (b :: rest) pos) (semT w EX lv tb)) : PW X (.BoolOp .And (a :: b :: rest) pos) (semT w EX lv (dAndT ta tb)) := by
  refine pw_imp (pw_and ha hb) fun σ H Q h => ?_
  obtain ⟨ρ, S, ι, h1, hs, hw⟩ := h
  refine stepT (Po := fun ι H => PB w ι H Q) h1 hs (fun l q => q.mono l) hw fun x S1 H1 ι1 l1 s1 e1 h1 => ?_
  cases x with
  | true => exact ⟨ρ, S1, ι1, e1, s1, h1⟩
  | false => exact PB.now h1 s1
theorem td_or {rest : List Expr} (ha : PT X a (semT w EX lv ta)) (hb : PW X (.BoolOp .Or (b :: rest) pos) (semT w EX lv tb)) : PW X (.BoolOp .Or (a :: b :: rest) pos) (semT w EX lv (dOrT ta tb)) := by
  refine pw_imp (pw_or ha hb) fun σ H Q h => ?_
  obtain ⟨ρ, S, ι, h1, hs, hw⟩ := h
  refine stepT (Po := fun ι H => PB w ι H Q) h1 hs (fun l q => q.mono l) hw fun x S1 H1 ι1 l1 s1 e1 h1 => ?_
  cases x with
  | true => exact PB.now h1 s1
  | false => exact ⟨ρ, S1, ι1, e1, s1, h1⟩
theorem pd_not (ha : PE X a (semE w EX lv da)) : PE X (.UnaryOp .Not a pos) (semE w EX lv (dUn notD da)) := by
  refine PE.imp (pe_not ha) fun σ H Q h => ?_
  obtain ⟨ρ, S, ι, h1, hs, hw⟩ := h
  refine stepE (Po := fun ι H => PV w ι H Q) h1 hs (fun l q => q.mono l) hw fun x S1 v H1 ι1 l1 s1 r1 e1 h1 => ?_
  cases x <;> first | exact False.elim h1 | skip
  cases r1
  exact ⟨_, rfl, PV.now h1 s1 rfl⟩
theorem pd_andV {rest : List Expr} (ha : PE X a (semE w EX lv da)) (hb : PE X (.BoolOp .And (b :: rest) pos) (semE w EX lv db)) : PE X (.BoolOp .And (a :: b :: rest) pos) (semE w EX lv (dAndV da db)) := by
  refine PE.imp (pe_and ha hb) fun σ H Q h => ?_
  obtain ⟨ρ, S, ι, h1, hs, hw⟩ := h
  refine stepE (Po := fun ι H => PV w ι H Q) h1 hs (fun l q => q.mono l) hw fun x S1 v H1 ι1 l1 s1 r1 e1 h1 => ?_
  cases x <;> first | exact False.elim h1 | skip
  rename_i k
  cases r1
  cases k with
  | true => exact ⟨_, rfl, ρ, S1, ι1, e1, s1, h1⟩
  | false => exact ⟨_, rfl, PV.now h1 s1 rfl⟩
/-! ### chains of comparisons -/
/-- the links behind the first value -/
abbrev DenK := D → Lv → Env → Sto → R D
def kLast (o : Op2) (b : Den) : DenK := fun x lv ρ S => (b lv ρ S).bind fun y S1 => quiet (o x y S1)
def kLink (o : Op2) (b : Den) (k : DenK) : DenK := fun x lv ρ S => (b lv ρ S).bind fun y S1 => (quiet (o x y S1)).bind fun z S2 => match z with
  | .bl true => k y lv ρ S2
  | .bl false => .ok (.bl false) S2
  | _ => .no
def dChain (a : Den) (k : DenK) : Den := fun lv ρ S => (a lv ρ S).bind fun x S1 => k x lv ρ S1
/-- a truth is wanted -/
def PBd (w : Wn) (ι : List Addr) (H : Hp) (Q : Bool → Hp → Prop) : D → Sto → Prop := fun z S1 => match z with
  | .bl b => PB w ι H Q b S1
  | _ => False
/-- a chain's rest, as a value and as a test -/
structure PK2 (X : Cx) (w : Wn) (EX : EXT) (lv : Lv) (ops : List CmpOp) (rs : List Expr) (k : DenK) : Prop where
  runV : ∀ (p : Pos) (pins : List (Addr × Obj)) (s : Shared) (σ : L2.St) (H : Hp) (ρ : Env) (S : Sto) (ι : List Addr) (x : D) (v : V) (u : Value) (Q : VK), L2.Inv X pins σ H s → ERep w.K ι H ρ σ → SRep w.K w.tabs ι S H → Rep w.K ι H x v → RelV v u → (k x lv ρ S).wp (PV w ι H Q) (PX w EX ι H σ) →
    wpAny (model X.prog X.w) X.A (compareChain p u ops (evalEach rs X.env)) (EP X pins σ Q) X.xe s
  runT : ∀ (p : Pos) (pins : List (Addr × Obj)) (s : Shared) (σ : L2.St) (H : Hp) (ρ : Env) (S : Sto) (ι : List Addr) (x : D) (v : V) (u : Value) (Q : Bool → Hp → Prop), L2.Inv X pins σ H s → ERep w.K ι H ρ σ → SRep w.K w.tabs ι S H → Rep w.K ι H x v → RelV v u →
    (k x lv ρ S).wp (PBd w ι H Q) (PX w EX ι H σ) →
    wpAny (model X.prog X.w) X.A (testChain p u ops (evalEach rs X.env)) (TP X pins σ Q) X.xe s
theorem mbMono {ι ι1 : List Addr} {H H1 : Hp} {Q : Bool → Hp → Prop} {z : D} {S1 : Sto} (l : Le ι H ι1 H1) (h : PBd w ι H Q z S1) : PBd w ι1 H1 Q z S1 := by
  cases z <;> first | exact False.elim h | exact PB.mono l h
theorem kd_last {op : CmpOp} {o : Op2} (ho : OpR X (compareOp op) (rOp w o)) (hb : PE X b (semE w EX lv db)) : PK2 X w EX lv [op] [b] (kLast o db) := by
  refine ⟨fun p pins s σ H ρ S ι x v u Q I he hs r ru hw => ?_, fun p pins s σ H ρ S ι x v u Q I he hs r ru hw => ?_⟩
  · refine chain_last ?_
    refine thn (hb.run pins s σ H _ I (stepE (T := fun vy H1 => rOp w o v vy H1 Q) (Po := fun ι H => PV w ι H Q) he hs (fun l q => q.mono l) hw fun y S1 vy H1 ι1 l1 s1 r1 e1 h1 => ?_)) fun uy s1 h1 => ?_
    · exact ⟨S1, ι1, x, y, s1, Rep.mono l1 x v r, r1, quiet_wp h1⟩
    · obtain ⟨vy, H1, I1, ry, q1⟩ := h1
      exact ho pins s1 σ H1 v vy u uy Q I1 ru ry q1
  · refine test_last ?_
    refine thn (hb.run pins s σ H _ I (stepE (T := fun vy H1 => rOp w o v vy H1 fun z H2 => ∃ k, z = V.bl k ∧ Q k H2) (Po := fun ι H => PBd w ι H Q) he hs (fun l q => mbMono l q) hw fun y S1 vy H1 ι1 l1 s1 r1 e1 h1 => ?_)) fun uy s1 h1 => ?_
    · refine ⟨S1, ι1, x, y, s1, Rep.mono l1 x v r, r1, R.wp_mono (quiet_wp h1) (fun z S2 hz => ?_) fun _ _ f => f⟩
      intro vz H2 ι2 l2 s2 r2
      cases z <;> first | exact False.elim hz | skip
      cases r2
      exact ⟨_, rfl, hz H2 ι2 l2 s2⟩
    · obtain ⟨vy, H1, I1, ry, q1⟩ := h1
      refine thn (ho pins s1 σ H1 v vy u uy _ I1 ru ry q1) fun c s2 h2 => ?_
      obtain ⟨vz, H2, I2, rz, k, rfl, q2⟩ := h2
      cases rz
      exact wpAny_truthy_bool ⟨H2, I2, q2⟩
theorem kd_link {op op' : CmpOp} {ops : List CmpOp} {b' : Expr} {rs : List Expr} {o : Op2} {k : DenK} (ho : OpR X (compareOp op) (rOp w o)) (hb : PE X b (semE w EX lv db)) (hk : PK2 X w EX lv (op' :: ops) (b' :: rs) k) :
    PK2 X w EX lv (op :: op' :: ops) (b :: b' :: rs) (kLink o db k) := by
  refine ⟨fun p pins s σ H ρ S ι x v u Q I he hs r ru hw => ?_, fun p pins s σ H ρ S ι x v u Q I he hs r ru hw => ?_⟩
  · refine chain_link ?_
    refine thn (hb.run pins s σ H (fun vy H1 => ∃ y S1 ι1, Le ι H ι1 H1 ∧ SRep w.K w.tabs ι1 S1 H1 ∧ Rep w.K ι1 H1 y vy ∧ ERep w.K ι1 H1 ρ σ ∧ ((quiet (o x y S1)).bind fun z S2 => match z with | .bl true => k y lv ρ S2 | .bl false => .ok (.bl false) S2 | _ => .no).wp (PV w ι1 H1 Q) (PX w EX ι1 H1 σ)) I
      (stepE (Po := fun ι H => PV w ι H Q) he hs (fun l q => q.mono l) hw fun y S1 vy H1 ι1 l1 s1 r1 e1 h1 => ⟨y, S1, ι1, l1, s1, r1, e1, h1⟩)) fun uy s1 h1 => ?_
    obtain ⟨vy, H1, I1, ry, y, S1, ι1, l1, s1', r1, e1, h1⟩ := h1
    refine thn (ho pins s1 σ H1 v vy u uy (fun z H2 => ∃ kk, z = V.bl kk ∧ if kk = true then ∃ S2 ι2, Le ι1 H1 ι2 H2 ∧ SRep w.K w.tabs ι2 S2 H2 ∧ (k y lv ρ S2).wp (PV w ι2 H2 Q) (PX w EX ι2 H2 σ) else Q (.bl false) H2) I1 ru ry
      ⟨S1, ι1, x, y, s1', Rep.mono l1 x v r, r1, R.wp_mono (quiet_wp (R.wp_bind.mp h1)) (fun z S2 hz => ?_) fun _ _ f => f⟩) fun c s2 h2 => ?_
    · intro vz H2 ι2 l2 s2 r2
      cases z <;> first | exact False.elim hz | skip
      rename_i kk
      cases r2
      cases kk with
      | true => exact ⟨true, rfl, S2, ι2, l2, s2, R.wp_mono hz (fun _ _ q => q.mono l2) fun _ _ q => q.mono l2⟩
      | false => exact ⟨false, rfl, PV.now (PV.mono l2 hz) s2 rfl⟩
    · obtain ⟨vz, H2, I2, rz, kk, rfl, q2⟩ := h2
      cases rz
      refine wpAny_truthy_bool ?_
      cases kk with
      | true =>
        obtain ⟨S2, ι2, l2, s2', h3⟩ := q2
        exact hk.runV p pins s2 σ H2 ρ S2 ι2 y vy uy Q I2 (e1.mono l2) s2' (Rep.mono l2 y vy r1) ry h3
      | false => exact ⟨.bl false, H2, I2, rfl, q2⟩
  · refine test_link ?_
    refine thn (hb.run pins s σ H (fun vy H1 => ∃ y S1 ι1, Le ι H ι1 H1 ∧ SRep w.K w.tabs ι1 S1 H1 ∧ Rep w.K ι1 H1 y vy ∧ ERep w.K ι1 H1 ρ σ ∧ ((quiet (o x y S1)).bind fun z S2 => match z with | .bl true => k y lv ρ S2 | .bl false => .ok (.bl false) S2 | _ => .no).wp (PBd w ι1 H1 Q) (PX w EX ι1 H1 σ)) I
      (stepE (Po := fun ι H => PBd w ι H Q) he hs (fun l q => mbMono l q) hw fun y S1 vy H1 ι1 l1 s1 r1 e1 h1 => ⟨y, S1, ι1, l1, s1, r1, e1, h1⟩)) fun uy s1 h1 => ?_
    obtain ⟨vy, H1, I1, ry, y, S1, ι1, l1, s1', r1, e1, h1⟩ := h1
    refine thn (ho pins s1 σ H1 v vy u uy (fun z H2 => ∃ kk, z = V.bl kk ∧ if kk = true then ∃ S2 ι2, Le ι1 H1 ι2 H2 ∧ SRep w.K w.tabs ι2 S2 H2 ∧ (k y lv ρ S2).wp (PBd w ι2 H2 Q) (PX w EX ι2 H2 σ) else Q false H2) I1 ru ry
      ⟨S1, ι1, x, y, s1', Rep.mono l1 x v r, r1, R.wp_mono (quiet_wp (R.wp_bind.mp h1)) (fun z S2 hz => ?_) fun _ _ f => f⟩) fun c s2 h2 => ?_
    · intro vz H2 ι2 l2 s2 r2
      cases z <;> first | exact False.elim hz | skip
      rename_i kk
      cases r2
      cases kk with
      | true => exact ⟨true, rfl, S2, ι2, l2, s2, R.wp_mono hz (fun _ _ q => mbMono l2 q) fun _ _ q => q.mono l2⟩
      | false => exact ⟨false, rfl, PB.now (PB.mono l2 hz) s2⟩
    · obtain ⟨vz, H2, I2, rz, kk, rfl, q2⟩ := h2
      cases rz
      refine wpAny_truthy_bool ?_
      cases kk with
      | true =>
        obtain ⟨S2, ι2, l2, s2', h3⟩ := q2
        exact hk.runT p pins s2 σ H2 ρ S2 ι2 y vy uy Q I2 (e1.mono l2) s2' (Rep.mono l2 y vy r1) ry h3
      | false => exact ⟨H2, I2, q2⟩
theorem pd_chain {op1 op2 : CmpOp} {ops : List CmpOp} {r1 r2 : Expr} {rs : List Expr} {k : DenK} (ha : PE X a (semE w EX lv da)) (hk : PK2 X w EX lv (op1 :: op2 :: ops) (r1 :: r2 :: rs) k) (hm : lastMarks (op1 :: op2 :: ops) (r1 :: r2 :: rs) = false) :
    PE X (.Compare a (op1 :: op2 :: ops) (r1 :: r2 :: rs) pos) (semE w EX lv (dChain da k)) := by
  refine ⟨fun pins s σ H Q I h => ?_⟩
  obtain ⟨ρ, S, ι, he, hs, hw⟩ := h
  refine Compare_chain (thn (ha.run pins s σ H (fun v H1 => ∃ x S1 ι1, Le ι H ι1 H1 ∧ SRep w.K w.tabs ι1 S1 H1 ∧ Rep w.K ι1 H1 x v ∧ ERep w.K ι1 H1 ρ σ ∧ (k x lv ρ S1).wp (PV w ι1 H1 Q) (PX w EX ι1 H1 σ)) I
    (stepE (Po := fun ι H => PV w ι H Q) he hs (fun l q => q.mono l) hw fun y S1 vy H1 ι1 l1 s1 r1 e1 h1 => ⟨y, S1, ι1, l1, s1, r1, e1, h1⟩)) fun u s1 h1 => ?_) hm
  obtain ⟨v, H1, I1, rv, x, S1, ι1, l1, s1', rx, e1, h1⟩ := h1
  exact hk.runV _ pins s1 σ H1 ρ S1 ι1 x v u Q I1 e1 s1' rx rv h1
end
end Dv

namespace Dv
open PySem PySem.Spec PyProof.Rows L2

/-! ### calls of built-ins -/
theorem bi_len : bootBuiltins "len" = some (.builtin "len") := by decide +kernel
theorem bi_isinstance : bootBuiltins "isinstance" = some (.builtin "isinstance") := by decide +kernel
theorem bi_abs : bootBuiltins "abs" = some (.builtin "abs") := by decide +kernel
theorem bi_min : bootBuiltins "min" = some (.builtin "min") := by decide +kernel
theorem bi_max : bootBuiltins "max" = some (.builtin "max") := by decide +kernel
theorem bi_sorted : bootBuiltins "sorted" = some (.builtin "sorted") := by decide +kernel
theorem bi_repr : bootBuiltins "repr" = some (.builtin "repr") := by decide +kernel
theorem bt_int : bootBuiltins "int" = some (.type "int") := by decide +kernel
theorem bt_bool : bootBuiltins "bool" = some (.type "bool") := by decide +kernel
theorem bt_tuple : bootBuiltins "tuple" = some (.type "tuple") := by decide +kernel
theorem bt_list : bootBuiltins "list" = some (.type "list") := by decide +kernel
def dCl (o : OpN) (a : DenA) : Den := fun lv ρ S => (a lv ρ S).bind fun xs S1 => quiet (o xs S1)
section
variable {X : Cx} {w : Wn} {EX : EXT} {lv : Lv} {a b e : Expr} {es : List Expr} {da db : Den} {ra : DenA} {p pos apos cpos : Pos} {x : Str} {id T : String}
theorem sem_cl {o : OpN} {σ : L2.St} {H : Hp} {Q : VK} (h : semE w EX lv (dCl o ra) σ H Q) : tCB (rCl w o) (semA w EX lv ra) σ H Q := by
  obtain ⟨ρ, S, ι, he, hs, hw⟩ := h
  refine stepA (Po := fun ι H => PV w ι H Q) he hs (fun l q => q.mono l) hw fun xs S1 vs H1 ι1 l1 s1 r1 e1 h1 => ?_
  exact ⟨S1, ι1, xs, s1, r1, quiet_wp h1⟩
theorem pd_callB {o : OpN} (hc : CallR X (.builtin id) (rCl w o)) (hg : Gl X x) (hm : X.mg x = none) (hv : bootBuiltins x = some (.builtin id)) (ha : PA X (e :: es) (semA w EX lv ra)) (hn : x ≠ "__name__") (hdb : (x == ("__debug__" : Str)) = false)
    (he : starEach (e :: es) X.env = (false, eval e X.env) :: starEach es X.env) (hpl : (backTo pos (starEach es X.env)).any (·.1) = false) : PE X (.Call (.Name x p) (e :: es) [] pos) (semE w EX lv (dCl o ra)) :=
  PE.imp (pe_callB hc hg hm hv ha hn hdb he hpl) fun _ _ _ h => sem_cl h
theorem pd_callTy {o : OpN} (hc : CallR X (.type T) (rCl w o)) (hg : Gl X x) (hm : X.mg x = none) (hv : bootBuiltins x = some (.type T)) (ha : PA X (e :: es) (semA w EX lv ra)) (hn : x ≠ "__name__") (hdb : (x == ("__debug__" : Str)) = false)
    (he : starEach (e :: es) X.env = (false, eval e X.env) :: starEach es X.env) (hpl : (backTo pos (starEach es X.env)).any (·.1) = false) : PE X (.Call (.Name x p) (e :: es) [] pos) (semE w EX lv (dCl o ra)) :=
  PE.imp (pe_callTy hc hg hm hv ha hn hdb he hpl) fun _ _ _ h => sem_cl h

/-- isinstance(e, T) -/
def dIsi (T : Ty) (a : Den) : Den := fun lv ρ S => (a lv ρ S).bind fun d S1 => .ok (.bl (isK (kdOf d S1) T)) S1
theorem pd_isi {tabs : List Tb} {y : Str} {p2 : Pos} {T : Ty} (hg : Gl X "isinstance") (hm : X.mg "isinstance" = none) (hgT : Gl X y) (hmT : X.mg y = none) (hvT : bootBuiltins y = some (.type T.nm)) (hnT : y ≠ "__name__") (hdT : (y == ("__debug__" : Str)) = false) (ha : PE X a (semE ⟨X.K, tabs⟩ EX lv da))
    (he : starEach [a, .Name y p2] X.env = (false, eval a X.env) :: starEach [.Name y p2] X.env) (he2 : starEach [.Name y p2] X.env = (false, eval (.Name y p2) X.env) :: starEach [] X.env) (hpl : (backTo pos (starEach [.Name y p2] X.env)).any (·.1) = false) :
    PE X (.Call (.Name "isinstance" p) [a, .Name y p2] [] pos) (semE ⟨X.K, tabs⟩ EX lv (dIsi T da)) := by
  refine PE.imp (pe_callB Gn.call_isiW hg hm bi_isinstance (pa_cons ha (pa_cons (pe_bltn (v := .ty T.nm) hgT hmT hvT rfl hnT hdT) pa_nil he2) he) (by decide) (by decide) he hpl) fun σ H Q h => ?_
  obtain ⟨ρ, S, ι, h0, hs, hw⟩ := h
  refine stepE (Po := fun ι H => PV ⟨X.K, tabs⟩ ι H Q) h0 hs (fun l q => q.mono l) hw fun x S1 v H1 ι1 l1 s1 r1 e1 h1 => ?_
  obtain ⟨t, ty, kt⟩ := kd_x s1 r1
  exact ⟨v, _, t, .type T.nm, isK (kdOf x S1) T, rfl, .ty T.nm, ty, kt T, PV.now h1 s1 rfl⟩

/-! ### methods of lists -/
abbrev OpM := D → List D → Sto → R D
def rMt (w : Wn) (m : OpM) : V → List V → Hp → VK → Prop := fun x xs H Q => ∃ S ι d ds, SRep w.K w.tabs ι S H ∧ Rep w.K ι H d x ∧ RepL w.K ι H ds xs ∧ (m d ds S).wp (PV w ι H Q) (fun _ _ => False)
def isL (d : D) (S : Sto) : Bool := match d with
  | .ref i => match S[i]? with
    | some (.lst _ _) => true
    | _ => false
  | _ => false
def dMt (m : OpM) (o : Den) (a : DenA) : Den := fun lv ρ S => (o lv ρ S).bind fun x S1 => if isL x S1 = true then (a lv ρ S1).bind fun xs S2 => quiet (m x xs S2) else .no
theorem isL_v {K : PySem.W.Frag} {tabs : List Tb} {ι : List Addr} {H : Hp} {S : Sto} {d : D} {x : V} (hs : SRep K tabs ι S H) (h : isL d S = true) (r : Rep K ι H d x) : tyV K "list" x H := by
  cases d <;> first | (cases h; done) | skip
  rename_i i
  unfold isL at h
  dsimp only at h
  split at h
  · rename_i b ys e
    obtain ⟨a, rfl, q⟩ := r
    obtain ⟨a', vs, ha, hq, l⟩ := hs.list e
    rw [q] at ha
    cases ha
    exact .inl ⟨rfl, vs, hq⟩
  · cases h
theorem pd_mt {tabs : List Tb} {m : OpM} {o : Expr} {name : Str} (slot : Slot "list" name id) (hty : typeOf (.builtin id) = pure (.type "method_descriptor")) (hm : MtR X id (rMt ⟨X.K, tabs⟩ m)) (ho : PE X o (semE ⟨X.K, tabs⟩ EX lv da)) (ha : PA X (e :: es) (semA ⟨X.K, tabs⟩ EX lv ra))
    (hbase : attributeBase o name X.env (eval o X.env) = eval o X.env)
    (hfew : ((backTo cpos (starEach (e :: es) X.env)).all (fun x => !x.1) && (backToKw cpos (keywordEach [] X.env)).all (fun x => x.1.isSome)
      && decide ((e :: es).length + ([] : List Keyword).length + (if ([] : List Keyword).isEmpty then 0 else 1) < 30)) = true)
    (hline : (apos.endLine == cpos.line) = true) (hs : starEach (e :: es) X.env = (false, eval e X.env) :: starEach es X.env) (hplain : (backTo cpos (starEach es X.env)).any (·.1) = false) :
    PE X (.Call (.Attribute o name apos) (e :: es) [] cpos) (semE ⟨X.K, tabs⟩ EX lv (dMt m da ra)) := by
  refine PE.imp (pe_bm PySem.F.plainAttrs_list slot hty hm ho ha hbase hfew hline hs hplain) fun σ H Q h => ?_
  obtain ⟨ρ, S, ι, he, hs, hw⟩ := h
  refine stepE (Po := fun ι H => PV ⟨X.K, tabs⟩ ι H Q) he hs (fun l q => q.mono l) hw fun x S1 v H1 ι1 l1 s1 r1 e1 h1 => ?_
  by_cases hL : isL x S1 = true
  · rw [if_pos hL] at h1
    refine ⟨isL_v s1 hL r1, ?_⟩
    refine stepA (Po := fun ι H => PV ⟨X.K, tabs⟩ ι H Q) e1 s1 (fun l q => q.mono l) h1 fun xs S2 vs H2 ι2 l2 s2 r2 e2 h2 => ?_
    exact ⟨S2, ι2, x, xs, s2, Rep.mono l2 x v r1, r2, quiet_wp h2⟩
  · rw [if_neg hL] at h1
    exact h1.elim
/-- a list of the store is written -/
theorem put_lst {tabs : List Tb} {ι : List Addr} {H : Hp} {S : Sto} {i : Nat} {a : Addr} {xs ys : List D} {us : List V} (hs : SRep X.K tabs ι S H) (e1 : S[i]? = some (.lst true xs)) (e2 : ι[i]? = some a) (r : RepL X.K ι H ys us) :
    SRep X.K tabs ι (S.set i (.lst true ys)) (upd H a (.lst us)) ∧ Le ι H ι (upd H a (.lst us)) := by
  obtain ⟨vs, k, _⟩ := hs.obj i _ a e1 e2
  have l : Le ι H ι (upd H a (.lst us)) := ⟨fun _ _ z => z, fun b vs z => by
      rw [upd_ne (fun q => by rw [q, k] at z; cases z)]; exact z, fun b o u z => by
      rw [upd_ne (fun q => by rw [q, k] at z; cases z)]; exact z⟩
  exact hs.put e1 e2 rfl rfl ⟨us, upd_same, RepL.mono l _ _ r⟩
def appendD : OpM
  | .ref i, [y], S => match S[i]? with
    | some (.lst true xs) => if xs.length < mx then .ok .non (S.set i (.lst true (xs ++ [y]))) else .no
    | _ => .no
  | _, _, _ => .no
theorem mtd_append {tabs : List Tb} : MtR X "list.append" (rMt ⟨X.K, tabs⟩ appendD) := by
  rintro pins s σ H x xs v us Q I rx rxs ⟨S, ι, d, ds, hs, r1, r2, hw⟩
  unfold appendD at hw
  split at hw
  · rename_i i y
    obtain ⟨u, rfl, q⟩ := repl1 r2
    obtain ⟨a, rfl, ha⟩ := r1
    split at hw
    · rename_i zs e
      split at hw
      · rename_i hz
        obtain ⟨vs, k, l⟩ := hs.obj i _ a e ha
        obtain ⟨s2, l2⟩ := put_lst hs e ha (l.app (RepL.one q))
        exact mt_append pins s σ H _ _ v us Q I rx rxs ⟨a, vs, u, rfl, rfl, k, by rw [← l.len]; exact mx_lt hz, hw _ _ ι l2 s2 rfl⟩
      · exact hw.elim
    · exact hw.elim
  · exact hw.elim
def popAtD : OpM
  | .ref i, [.int k], S => match S[i]? with
    | some (.lst true xs) => if 0 ≤ k ∧ k < 1000000 then (match xs[k.toNat]? with
      | some y => .ok y (S.set i (.lst true (xs.eraseIdx k.toNat)))
      | none => .no) else .no
    | _ => .no
  | .ref i, [], S => match S[i]? with
    | some (.lst true xs) => (match xs[xs.length - 1]? with
      | some y => .ok y (S.set i (.lst true xs.dropLast))
      | none => .no)
    | _ => .no
  | _, _, _ => .no
theorem repl_dropLast {K : PySem.W.Frag} {ι : List Addr} {H : Hp} {ds : List D} {vs : List V} (l : RepL K ι H ds vs) : RepL K ι H ds.dropLast vs.dropLast := by
  rw [List.dropLast_eq_take, List.dropLast_eq_take, l.len]
  exact l.take _
theorem mtd_pop {tabs : List Tb} : MtR X "list.pop" (rMt ⟨X.K, tabs⟩ popAtD) := by
  rintro pins s σ H x xs v us Q I rx rxs ⟨S, ι, d, ds, hs, r1, r2, hw⟩
  unfold popAtD at hw
  split at hw
  · rename_i i k
    obtain ⟨u, rfl, q⟩ := repl1 r2
    cases q
    obtain ⟨a, rfl, ha⟩ := r1
    split at hw
    · rename_i zs e
      split at hw
      · rename_i hk
        split at hw
        · rename_i y ey
          obtain ⟨vs, kk, l⟩ := hs.obj i _ a e ha
          obtain ⟨s2, l2⟩ := put_lst hs e ha (l.erase k.toNat)
          obtain ⟨vy, h1, h2⟩ := l.get ey
          have hlt : k.toNat < vs.length := (List.getElem?_eq_some_iff.mp h1).1
          exact mt_popAt pins s σ H _ _ v us Q I rx rxs ⟨a, vs, k, k.toNat, vy, rfl, rfl, kk, by omega, by omega, seqIndex_of hk.1 (by omega), h1, hw _ _ ι l2 s2 (Rep.mono l2 _ _ h2)⟩
        · exact hw.elim
      · exact hw.elim
    · exact hw.elim
  · rename_i i
    have e0 : xs = [] := r2
    subst e0
    obtain ⟨a, rfl, ha⟩ := r1
    split at hw
    · rename_i zs e
      split at hw
      · rename_i y ey
        obtain ⟨vs, kk, l⟩ := hs.obj i _ a e ha
        obtain ⟨s2, l2⟩ := put_lst hs e ha (repl_dropLast l)
        obtain ⟨vy, h1, h2⟩ := l.get ey
        rw [l.len] at h1
        exact mt_pop pins s σ H _ _ v us Q I rx rxs ⟨a, vs, vy, rfl, rfl, kk, h1, hw _ _ ι l2 s2 (Rep.mono l2 _ _ h2)⟩
      · exact hw.elim
    · exact hw.elim
  · exact hw.elim
def extendD : OpM
  | .ref i, [.ref j], S => match S[i]?, S[j]? with
    | some (.lst true xs), some (.lst true ys) => if xs.length + ys.length ≤ mx then .ok .non (S.set i (.lst true (xs ++ ys))) else .no
    | _, _ => .no
  | _, _, _ => .no
def reverseD : OpM
  | .ref i, [], S => match S[i]? with
    | some (.lst true xs) => .ok .non (S.set i (.lst true xs.reverse))
    | _ => .no
  | _, _, _ => .no
/-! ### slices as expressions -/
def dSl (a : Den) (lo hi : Option Den) : Den := fun lv ρ S => (a lv ρ S).bind fun x S1 =>
  (match lo with | none => R.ok (none : Option Int) S1 | some l => (l lv ρ S1).bind fun y S2 => match y with | .int i => .ok (some i) S2 | _ => .no).bind fun l S2 =>
  (match hi with | none => R.ok (none : Option Int) S2 | some h => (h lv ρ S2).bind fun y S3 => match y with | .int i => .ok (some i) S3 | _ => .no).bind fun h S3 => quiet (slD x l h S3)
def poDen (o : Option Den) : Lv → Env → Sto → R (Option Int) := fun lv ρ S => match o with
  | none => .ok none S
  | some d => (d lv ρ S).bind fun y S1 => match y with
    | .int i => .ok (some i) S1
    | _ => .no
def PO1 (w : Wn) (ι : List Addr) (H : Hp) (Q : Option Int → Hp → Prop) : Option Int → Sto → Prop := fun o S' => ∀ H' ι', Le ι H ι' H' → SRep w.K w.tabs ι' S' H' → Q o H'
def semO (w : Wn) (EX : EXT) (lv : Lv) (d : Lv → Env → Sto → R (Option Int)) : TO := fun σ H Q => ∃ ρ S ι, ERep w.K ι H ρ σ ∧ SRep w.K w.tabs ι S H ∧ (d lv ρ S).wp (PO1 w ι H Q) (PX w EX ι H σ)
theorem PO.imp {o : Option Expr} {t t' : TO} (h : PO X o t) (i : ∀ σ H Q, t' σ H Q → t σ H Q) : PO X o t' := ⟨fun pins s σ H Q I q => h.run pins s σ H Q I (i σ H Q q)⟩
theorem od_none : PO X none (semO w EX lv (poDen none)) := PO.imp po_none fun σ H Q h => by
  obtain ⟨ρ, S, ι, he, hs, hw⟩ := h
  exact hw H ι (Le.refl _ _) hs
theorem od_some (ha : PE X a (semE w EX lv da)) : PO X (some a) (semO w EX lv (poDen (some da))) := PO.imp (po_some ha) fun σ H Q h => by
  obtain ⟨ρ, S, ι, he, hs, hw⟩ := h
  refine stepE (Po := fun ι H => PO1 w ι H Q) he hs (fun l q H' ι' l' => q H' ι' (l.trans l')) hw fun x S1 v H1 ι1 l1 s1 r1 e1 h1 => ?_
  cases x <;> first | exact False.elim h1 | skip
  cases r1
  exact ⟨_, rfl, h1 H1 ι1 (Le.refl _ _) s1⟩
theorem pd_sl {tabs : List Tb} {lo hi : Option Expr} {dl dh : Option Den} {p2 : Pos} (ha : PE X a (semE ⟨X.K, tabs⟩ EX lv da)) (hl : PO X lo (semO ⟨X.K, tabs⟩ EX lv (poDen dl))) (hh : PO X hi (semO ⟨X.K, tabs⟩ EX lv (poDen dh))) :
    PE X (.Subscript a (.Slice lo hi none p2) pos) (semE ⟨X.K, tabs⟩ EX lv (dSl da dl dh)) := by
  refine PE.imp (pe_slice (sld (tabs := tabs)) ha hl hh) fun σ H Q h => ?_
  obtain ⟨ρ, S, ι, he, hs, hw⟩ := h
  have hw : ((da lv ρ S).bind fun x S1 => (poDen dl lv ρ S1).bind fun l S2 => (poDen dh lv ρ S2).bind fun h S3 => quiet (slD x l h S3)).wp (PV ⟨X.K, tabs⟩ ι H Q) (PX ⟨X.K, tabs⟩ EX ι H σ) := hw
  refine stepE (Po := fun ι H => PV ⟨X.K, tabs⟩ ι H Q) he hs (fun l q => q.mono l) hw fun x S1 v H1 ι1 l1 s1 r1 e1 h1 => ?_
  refine ⟨ρ, S1, ι1, e1, s1, R.wp_mono (R.wp_bind.mp h1) (fun l S2 h2 => ?_) fun c S2 h2 => h2⟩
  intro H2 ι2 l2 s2
  refine ⟨ρ, S2, ι2, e1.mono l2, s2, R.wp_mono (R.wp_bind.mp h2) (fun hh S3 h3 => ?_) fun c S3 h3 => PX.mono l2 h3⟩
  intro H3 ι3 l3 s3
  have l23 := l2.trans l3
  exact ⟨S3, ι3, x, s3, Rep.mono l23 x v r1, R.wp_mono (quiet_wp h3) (fun _ _ q => q.mono l23) fun _ _ f => f⟩
end
end Dv

namespace Dv
open PySem PySem.Spec PyProof.Rows L2

/-- how a statement ends -/
inductive Fl where
  | nx (ρ : Env) | rt (d : D) | bk (ρ : Env) | ct (ρ : Env) | xc (c : Nat) (ρ : Env)
abbrev DenS := Lv → Env → Sto → R Fl
/-- a part of a statement: its errors are the statement's, with the names as they stand -/
def R.bindS {α : Type} (x : R α) (ρ : Env) (f : α → Sto → R Fl) : R Fl := match x with
  | .ok a S => f a S
  | .ex c S => .ok (.xc c ρ) S
  | .no => .no
@[simp] theorem R.bindS_ok {α : Type} {a : α} {S : Sto} {ρ : Env} {f : α → Sto → R Fl} : (R.ok a S).bindS ρ f = f a S := id rfl
@[simp] theorem R.bindS_ex {α : Type} {c : Nat} {S : Sto} {ρ : Env} {f : α → Sto → R Fl} : (R.ex c S : R α).bindS ρ f = .ok (.xc c ρ) S := id rfl
@[simp] theorem R.bindS_no {α : Type} {ρ : Env} {f : α → Sto → R Fl} : (R.no : R α).bindS ρ f = .no := id rfl

def PF (w : Wn) (EX : EXT) (ι : List Addr) (H : Hp) (Dn : Ends) : Fl → Sto → Prop := fun f S' => match f with
  | .nx ρ => ∀ σ' H' ι', Le ι H ι' H' → SRep w.K w.tabs ι' S' H' → ERep w.K ι' H' ρ σ' → Dn.nx σ' H'
  | .rt d => ∀ v H' ι', Le ι H ι' H' → SRep w.K w.tabs ι' S' H' → Rep w.K ι' H' d v → Dn.rt v H'
  | .bk ρ => ∀ σ' H' ι', Le ι H ι' H' → SRep w.K w.tabs ι' S' H' → ERep w.K ι' H' ρ σ' → Dn.bk σ' H'
  | .ct ρ => ∀ σ' H' ι', Le ι H ι' H' → SRep w.K w.tabs ι' S' H' → ERep w.K ι' H' ρ σ' → Dn.ct σ' H'
  | .xc c ρ => ∀ σ' H' ι', Le ι H ι' H' → SRep w.K w.tabs ι' S' H' → ERep w.K ι' H' ρ σ' → EX c σ' H'
theorem PF.mono {w : Wn} {EX : EXT} {ι ι1 : List Addr} {H H1 : Hp} {Dn : Ends} {f : Fl} {S : Sto} (l : Le ι H ι1 H1) (h : PF w EX ι H Dn f S) : PF w EX ι1 H1 Dn f S := by
  cases f <;> exact fun v H' ι' l' => h v H' ι' (l.trans l')
abbrev noX : Nat → Sto → Prop := fun _ _ => False
def semS (w : Wn) (EX : EXT) (lv : Lv) (d : DenS) : TS := fun Dn σ H => ∃ ρ S ι, ERep w.K ι H ρ σ ∧ SRep w.K w.tabs ι S H ∧ (d lv ρ S).wp (PF w EX ι H Dn) noX

section
variable {X : Cx} {w : Wn} {EX : EXT} {lv : Lv} {σ : L2.St} {H : Hp} {ρ : Env} {S : Sto} {ι : List Addr} {Dn : Ends}
theorem stepES {d : Den} {k : D → Sto → R Fl} {T : VK} (he : ERep w.K ι H ρ σ) (hs : SRep w.K w.tabs ι S H)
    (hw : ((d lv ρ S).bindS ρ k).wp (PF w EX ι H Dn) noX)
    (cont : ∀ x S1 v H1 ι1, Le ι H ι1 H1 → SRep w.K w.tabs ι1 S1 H1 → Rep w.K ι1 H1 x v → ERep w.K ι1 H1 ρ σ → (k x S1).wp (PF w EX ι1 H1 Dn) noX → T v H1) : semE w EX lv d σ H T := by
  refine ⟨ρ, S, ι, he, hs, ?_⟩
  cases e : d lv ρ S with
  | ok x S1 =>
    rw [e] at hw
    exact fun v H1 ι1 l s1 r => cont x S1 v H1 ι1 l s1 r (he.mono l) (R.wp_mono hw (fun f S2 q => q.mono l) fun _ _ q => q)
  | ex c S1 =>
    rw [e] at hw
    exact fun H1 ι1 l s1 => hw σ H1 ι1 l s1 (he.mono l)
  | no => rw [e] at hw; exact hw.elim
theorem stepTS {d : DenT} {k : Bool → Sto → R Fl} {T : Bool → Hp → Prop} (he : ERep w.K ι H ρ σ) (hs : SRep w.K w.tabs ι S H)
    (hw : ((d lv ρ S).bindS ρ k).wp (PF w EX ι H Dn) noX)
    (cont : ∀ x S1 H1 ι1, Le ι H ι1 H1 → SRep w.K w.tabs ι1 S1 H1 → ERep w.K ι1 H1 ρ σ → (k x S1).wp (PF w EX ι1 H1 Dn) noX → T x H1) : semT w EX lv d σ H T := by
  refine ⟨ρ, S, ι, he, hs, ?_⟩
  cases e : d lv ρ S with
  | ok x S1 =>
    rw [e] at hw
    exact fun H1 ι1 l s1 => cont x S1 H1 ι1 l s1 (he.mono l) (R.wp_mono hw (fun f S2 q => q.mono l) fun _ _ q => q)
  | ex c S1 =>
    rw [e] at hw
    exact fun H1 ι1 l s1 => hw σ H1 ι1 l s1 (he.mono l)
  | no => rw [e] at hw; exact hw.elim

/-! ### plain statements -/
def sNil : DenS := fun _ ρ S => .ok (.nx ρ) S
def sSeq (a b : DenS) : DenS := fun lv ρ S => (a lv ρ S).bind fun f S1 => match f with
  | .nx ρ1 => b lv ρ1 S1
  | g => .ok g S1
def sRet (e : Den) : DenS := fun lv ρ S => (e lv ρ S).bindS ρ fun d S1 => .ok (.rt d) S1
def sRetN : DenS := fun _ _ S => .ok (.rt .non) S
def sExpr (e : Den) : DenS := fun lv ρ S => (e lv ρ S).bindS ρ fun _ S1 => .ok (.nx ρ) S1
def sBrk : DenS := fun _ ρ S => .ok (.bk ρ) S
def sCnt : DenS := fun _ ρ S => .ok (.ct ρ) S
def sIf (c : DenT) (a b : DenS) : DenS := fun lv ρ S => (c lv ρ S).bindS ρ fun x S1 => if x = true then a lv ρ S1 else b lv ρ S1
variable {st : Stmt} {rest : List Stmt} {a b : DenS} {e : Expr} {de : Den} {pos : Pos}
theorem sd_nil : PSs X [] (semS w EX lv sNil) := PSs.imp pss_nil fun Dn σ H h => by
  obtain ⟨ρ, S, ι, he, hs, hw⟩ := h
  exact hw σ H ι (Le.refl _ _) hs he
theorem sd_cons (h1 : PS X st (semS w EX lv a)) (h2 : PSs X rest (semS w EX lv b)) : PSs X (st :: rest) (semS w EX lv (sSeq a b)) := PSs.imp (pss_cons h1 h2) fun Dn σ H h => by
  obtain ⟨ρ, S, ι, he, hs, hw⟩ := h
  refine ⟨ρ, S, ι, he, hs, R.wp_mono (R.wp_bind.mp hw) (fun f S1 h => ?_) fun _ _ q => q⟩
  cases f with
  | nx ρ1 => exact fun σ' H' ι' l s1 e1 => ⟨ρ1, S1, ι', e1, s1, R.wp_mono h (fun f S2 q => q.mono l) fun _ _ q => q⟩
  | rt d => exact h
  | bk d => exact h
  | ct d => exact h
  | xc c d => exact h
theorem sd_one (h1 : PS X st (semS w EX lv a)) : PSs X [st] (semS w EX lv a) := pss_one h1
theorem sd_ret (ha : PE X e (semE w EX lv de)) : PS X (.Return (some e) pos) (semS w EX lv (sRet de)) := PS.imp (ps_ret ha) fun Dn σ H h => by
  obtain ⟨ρ, S, ι, he, hs, hw⟩ := h
  exact stepES he hs hw fun x S1 v H1 ι1 l1 s1 r1 e1 h1 => h1 v H1 ι1 (Le.refl _ _) s1 r1
theorem sd_expr (ha : PE X e (semE w EX lv de)) (hs : swapsWith e none pos.line X.env = pure false) : PS X (.Expr e pos) (semS w EX lv (sExpr de)) := PS.imp (ps_expr ha hs) fun Dn σ H h => by
  obtain ⟨ρ, S, ι, he, hs, hw⟩ := h
  exact stepES he hs hw fun x S1 v H1 ι1 l1 s1 r1 e1 h1 => h1 σ H1 ι1 (Le.refl _ _) s1 e1
theorem sd_if {c : Expr} {tc : DenT} {xs ys : List Stmt} (hc : PT X c (semT w EX lv tc)) (ha : PSs X xs (semS w EX lv a)) (hb : PSs X ys (semS w EX lv b)) : PS X (.If c xs ys pos) (semS w EX lv (sIf tc a b)) := PS.imp (ps_if hc ha hb) fun Dn σ H h => by
  obtain ⟨ρ, S, ι, he, hs, hw⟩ := h
  refine stepTS he hs hw fun x S1 H1 ι1 l1 s1 e1 h1 => ?_
  cases x with
  | true => exact ⟨ρ, S1, ι1, e1, s1, h1⟩
  | false => exact ⟨ρ, S1, ι1, e1, s1, h1⟩

/-! ### targets -/
inductive Tg where
  | nm (i : Nat) | tp (is : List Nat) | tn (i : Nat) (is : List Nat)
def setAll : List Nat → List D → Env → Env
  | i :: is, d :: ds, ρ => setAll is ds (ρ.set i (some d))
  | _, _, ρ => ρ
def tgD : Tg → D → Env → Option Env
  | .nm i, d, ρ => some (ρ.set i (some d))
  | .tp is, .tup ds, ρ => if ds.length = is.length then some (setAll is ds ρ) else none
  | .tn i is, .tup [d, .tup ds], ρ => if ds.length = is.length then some (setAll is ds (ρ.set i (some d))) else none
  | _, _, _ => none
def Tg.slots : Tg → List Nat
  | .nm i => [i]
  | .tp is => is
  | .tn i is => i :: is
/-- but for these slots nothing is changed -/
def Kp (is : List Nat) (σ σ' : L2.St) : Prop := ∀ vs : List Nat, (∀ i ∈ is, i ∈ vs) → wipe σ' vs = wipe σ vs
theorem Kp.refl {is : List Nat} (σ : L2.St) : Kp is σ σ := fun _ _ => rfl
theorem wipe_set {σ : L2.St} {i : Nat} {v : Option V} : ∀ {vs : List Nat}, i ∈ vs → wipe (σ.set i v) vs = wipe σ vs := by
  have len : ∀ (σ : L2.St) (vs : List Nat), (wipe σ vs).length = σ.length := wipe_length
  have at_ : ∀ (σ : L2.St) (vs : List Nat) (j : Nat), (wipe σ vs)[j]? = if j ∈ vs ∧ j < σ.length then some none else σ[j]? := by
    intro σ vs
    induction vs with
    | nil => intro j; simp [wipe]
    | cons u us ih =>
      intro j
      unfold wipe
      by_cases hj : u = j
      · subst hj
        by_cases hl : u < σ.length
        · rw [List.getElem?_set_self (by rw [len]; exact hl)]
          simp [hl]
        · rw [List.getElem?_eq_none (by rw [List.length_set, len]; omega)]
          rw [if_neg (fun q => hl q.2), List.getElem?_eq_none (by omega)]
      · rw [List.getElem?_set_ne hj, ih j]
        have e : (j ∈ u :: us) ↔ j ∈ us := by simp [Ne.symm hj]
        by_cases q : j ∈ us ∧ j < σ.length
        · rw [if_pos q, if_pos ⟨e.mpr q.1, q.2⟩]
        · rw [if_neg q, if_neg (fun z => q ⟨e.mp z.1, z.2⟩)]
  intro vs h
  refine List.ext_getElem? fun j => ?_
  rw [at_, at_, List.length_set]
  by_cases q : j ∈ vs ∧ j < σ.length
  · rw [if_pos q, if_pos q]
  · rw [if_neg q, if_neg q]
    by_cases hij : i = j
    · subst hij
      have hl : ¬ i < σ.length := fun z => q ⟨h, z⟩
      rw [List.getElem?_eq_none (by rw [List.length_set]; omega), List.getElem?_eq_none (by omega)]
    · rw [List.getElem?_set_ne hij]
def semG (w : Wn) (t : Tg) : TG := fun v σ H Q => ∃ ρ ι d ρ', ERep w.K ι H ρ σ ∧ Rep w.K ι H d v ∧ tgD t d ρ = some ρ' ∧ ∀ σ', ERep w.K ι H ρ' σ' → Kp t.slots σ σ' → Q σ' H
theorem PG.imp {tg : Expr} {t t' : TG} (h : PG X tg t) (i : ∀ v σ H Q, t' v σ H Q → t v σ H Q) : PG X tg t' := ⟨fun pins s σ H v u Q I r q => h.run pins s σ H v u Q I r (i v σ H Q q)⟩
theorem PGs.imp {tg : List Expr} {t t' : TGs} (h : PGs X tg t) (i : ∀ v σ H Q, t' v σ H Q → t v σ H Q) : PGs X tg t' := ⟨fun pins s σ H v u Q I r q => h.run pins s σ H v u Q I r (i v σ H Q q)⟩
theorem gd_name {i : Nat} {x : Str} (hN : X.N.Nodup) (hi : X.N[i]? = some x) (hx : Loc X.env.scope x) (hf : X.fn x = true ∨ X.env.scope.names.lookup x = some .local) : PG X (.Name x pos) (semG w (.nm i)) :=
  PG.imp (pg_name hN hi hx hf) fun v σ H Q h => by
    obtain ⟨ρ, ι, d, ρ', he, r, e, q⟩ := h
    cases e
    exact q _ (he.set r) fun vs hv => wipe_set (hv i (List.mem_singleton.mpr rfl))
def semGs (w : Wn) (is : List Nat) : TGs := fun vs σ H Q => ∃ ρ ι ds, ERep w.K ι H ρ σ ∧ RepL w.K ι H ds vs ∧ ds.length = is.length ∧ ∀ σ', ERep w.K ι H (setAll is ds ρ) σ' → Kp is σ σ' → Q σ' H
theorem gds_nil : PGs X [] (semGs w []) := PGs.imp pgs_nil fun vs σ H Q h => by
  obtain ⟨ρ, ι, ds, he, r, e, q⟩ := h
  have e0 : ds = [] := List.eq_nil_of_length_eq_zero e
  subst e0
  exact ⟨r, q σ he (Kp.refl σ)⟩
theorem gds_cons {e : Expr} {es : List Expr} {i : Nat} {is : List Nat} (h1 : PG X e (semG w (.nm i))) (h2 : PGs X es (semGs w is)) (hs : (assignEach (e :: es) X.env).map (·.2) = assign e X.env :: (assignEach es X.env).map (·.2)) : PGs X (e :: es) (semGs w (i :: is)) :=
  PGs.imp (pgs_cons h1 h2 hs) fun vs σ H Q h => by
    obtain ⟨ρ, ι, ds, he, r, e, q⟩ := h
    cases ds with
    | nil => cases e
    | cons d ds =>
      obtain ⟨v, vr, rfl, r1, r2⟩ := r
      refine ⟨v, vr, rfl, ρ, ι, d, _, he, r1, rfl, fun σ' e1 k1 => ?_⟩
      refine ⟨_, ι, ds, e1, r2, by simpa using e, fun σ2 e2 k2 => q σ2 e2 fun vs hv => ?_⟩
      rw [k2 vs fun j hj => hv j (List.mem_cons_of_mem _ hj)]
      exact k1 vs fun j hj => by
        rw [List.mem_singleton.mp hj]
        exact hv i List.mem_cons_self
theorem gd_tup {tabs : List Tb} {es : List Expr} {k : Nat} {is : List Nat} (hc : X.calm = true) (h : PGs X es (semGs ⟨X.K, tabs⟩ is)) (hn : (assignEach es X.env).length = is.length) (hst : (assignEach es X.env).findIdx? (·.1) = none) :
    PG X (.Tuple es k pos) (semG ⟨X.K, tabs⟩ (.tp is)) := PG.imp (pg_tup (n := is.length) hc h hn hst) fun v σ H Q h => by
  obtain ⟨ρ, ι, d, ρ', he, r, e, q⟩ := h
  cases d <;> first | (cases e; done) | skip
  rename_i ds
  obtain ⟨a, vs, rfl, hq, l⟩ := r
  unfold tgD at e
  dsimp only at e
  split at e
  · rename_i hl
    cases e
    exact ⟨a, vs, rfl, hq.t, by rw [← l.len]; exact hl, ρ, ι, ds, he, l, hl, q⟩
  · cases e
def sAsg (t : Tg) (e : Den) : DenS := fun lv ρ S => (e lv ρ S).bindS ρ fun d S1 => match tgD t d ρ with
  | some ρ1 => .ok (.nx ρ1) S1
  | none => .no
theorem asg_step {t : Tg} (h : semS w EX lv (sAsg t de) Dn σ H) : semE w EX lv de σ H (fun x H1 => semG w t x σ H1 Dn.nx) := by
  obtain ⟨ρ, S, ι, he, hs, hw⟩ := h
  refine stepES he hs hw fun x S1 v H1 ι1 l1 s1 r1 e1 h1 => ?_
  cases e : tgD t x ρ with
  | none => rw [e] at h1; exact h1.elim
  | some ρ1 =>
    rw [e] at h1
    exact ⟨ρ, ι1, x, ρ1, e1, r1, e, fun σ' e2 _ => h1 σ' H1 ι1 (Le.refl _ _) s1 e2⟩
theorem sd_asg {tg : Expr} {t : Tg} (ha : PE X e (semE w EX lv de)) (hg : PG X tg (semG w t)) (hs : swapsWithSole [tg] e pos.line X.env = pure false) (hw : swappedStores [tg] e X.env = pure none) (h1 : (assignEach [tg] X.env).map (·.2) = [assign tg X.env]) :
    PS X (.Assign [tg] e pos) (semS w EX lv (sAsg t de)) := PS.imp (ps_asg ha hg hs hw h1) fun Dn σ H h => asg_step h
/-- o[i] = e -/
def setD (o i v : D) (S : Sto) : R Unit := match o, i with
  | .ref r, .int k => match S[r]? with
    | some (.lst true xs) => match ixN xs.length k with
      | some j => .ok () (S.set r (.lst true (xs.set j v)))
      | none => .no
    | _ => .no
  | _, _ => .no
def sSub (o i e : Den) : DenS := fun lv ρ S => (e lv ρ S).bindS ρ fun v S1 => (o lv ρ S1).bindS ρ fun x S2 => (i lv ρ S2).bindS ρ fun y S3 => (setD x y v S3).bindS ρ fun _ S4 => .ok (.nx ρ) S4
theorem sd_sub {tabs : List Tb} {o i : Expr} {dox di : Den} {p2 : Pos} (ho : PE X o (semE ⟨X.K, tabs⟩ EX lv dox)) (hi : PE X i (semE ⟨X.K, tabs⟩ EX lv di)) (ha : PE X e (semE ⟨X.K, tabs⟩ EX lv de))
    (hasg : ∀ v, assign (.Subscript o i p2) X.env v = (do
      let ov ← holding [v] (eval o X.env)
      let iv ← holding [v, ov] (eval i X.env)
      standAt p2
      holding [v, ov, iv] (setItem ov iv v)
      release [v, ov, iv] [])) (hs : swapsWithSole [.Subscript o i p2] e pos.line X.env = pure false) (hw : swappedStores [.Subscript o i p2] e X.env = pure none) (h1 : (assignEach [.Subscript o i p2] X.env).map (·.2) = [assign (.Subscript o i p2) X.env]) :
    PS X (.Assign [.Subscript o i p2] e pos) (semS ⟨X.K, tabs⟩ EX lv (sSub dox di de)) := PS.imp (ps_asg ha (pg_sub ho hi set_list hasg) hs hw h1) fun Dn σ H h => by
  obtain ⟨ρ, S, ι, he, hs, hw⟩ := h
  refine stepES he hs hw fun d S1 v H1 ι1 l1 s1 r1 e1 h1 => ?_
  refine stepES e1 s1 h1 fun x S2 vx H2 ι2 l2 s2 r2 e2 h2 => ?_
  refine stepES e2 s2 h2 fun y S3 vy H3 ι3 l3 s3 r3 e3 h3 => ?_
  have rd := Rep.mono (l2.trans l3) d v r1
  have rx := Rep.mono l3 x vx r2
  unfold setD at h3
  split at h3
  · rename_i r k
    split at h3
    · rename_i xs e5
      split at h3
      · rename_i j ej
        obtain ⟨a, rfl, hA⟩ := rx
        cases r3
        obtain ⟨vs, kk, l⟩ := s3.obj r _ a e5 hA
        obtain ⟨s4, l4⟩ := put_lst s3 e5 hA (l.set rd j)
        exact ⟨a, vs, k, j, rfl, rfl, kk, by rw [← l.len]; exact ej, h3 σ _ ι3 l4 s4 (e3.mono l4)⟩
      · exact h3.elim
    · exact h3.elim
  · exact h3.elim
/-- x op= e -/
def sAug (i : Nat) (o : Op2) (e : Den) : DenS := fun lv ρ S => match ρ[i]? with
  | some (some x) => (e lv ρ S).bindS ρ fun y S1 => (quiet (o x y S1)).bindS ρ fun z S2 => .ok (.nx (ρ.set i (some z))) S2
  | _ => .no
end
end Dv

/-! ### zip and enumerate of lists and tuples in any mix, the items in new tuples that are known -/
namespace Zy
open PySem PySem.Spec PyProof.Rows L2
/-- a list (true) or a tuple -/
def Sq (k : Bool) (K : PySem.W.Frag) (H : Hp) (a : Addr) (xs : List V) : Prop := match k with
  | true => SqL K H a xs
  | false => SqT K H a xs
/-- its iterator stands ahead of i -/
def Aim (k : Bool) (h : Heap) (it a : Addr) (i : Nat) : Prop := match k with
  | true => h.IsListIter it a i
  | false => h.IsTupleIter it a i
def Cont (k : Bool) (h : Heap) (a : Addr) (us : List Value) : Prop := match k with
  | true => h.IsList a us.toArray
  | false => h.IsTuple a us.toArray
def itO (k : Bool) (a : Addr) : Obj := { cls := .type (if k = true then "list_iterator" else "tuple_iterator"), data := .fields #[.ref a, .int 0 0] }
theorem Aim.at {k : Bool} {h h' : Heap} {it a : Addr} {i : Nat} (p : Aim k h it a i) (e : ∀ o, h.get? it = some o → h'.get? it = some o) : Aim k h' it a i := by
  cases k with
  | true => exact Heap.IsListIter.at p e
  | false => exact Heap.IsTupleIter.at p e
theorem Aim.obj {k : Bool} {h : Heap} {it a : Addr} {i : Nat} (p : Aim k h it a i) : ∃ o, h.get? it = some o ∧ ∀ v, o.data ≠ .cell v := by
  cases k with
  | true => obtain ⟨o, e, _, d⟩ := p; exact ⟨o, e, fun _ z => by rw [d] at z; cases z⟩
  | false => obtain ⟨o, e, _, d⟩ := p; exact ⟨o, e, fun _ z => by rw [d] at z; cases z⟩
theorem Aim.lt {k : Bool} {h : Heap} {it a : Addr} {i : Nat} (p : Aim k h it a i) : it < h.objs.size := by
  obtain ⟨o, e, _⟩ := p.obj; exact Heap.lt_size e
section
variable {X : Cx} {pins : List (Addr × Obj)} {σ : L2.St} {H : Hp} {s : Shared} {k : Bool} {a : Addr} {xs ys : List V}
theorem read (I : Inv X pins σ H s) (h : Sq k X.K H a xs) : ∃ us : List Value, Vals xs us ∧ Cont k s.heap a us := by
  cases k with
  | true => obtain ⟨us, r, p, _⟩ := I.list h; exact ⟨us, r, p.isList⟩
  | false => obtain ⟨us, r, p, _⟩ := I.tuple h; exact ⟨us, r, p⟩
theorem inj (I : Inv X pins σ H s) (h : Sq k X.K H a xs) (g : Sq k X.K H a ys) : xs = ys := by
  cases k with
  | true => exact I.list_inj h g
  | false => exact I.tuple_inj h g
theorem Cont.lt {h : Heap} {us : List Value} (c : Cont k h a us) : a < h.objs.size := by
  cases k with
  | true => obtain ⟨o, e, _⟩ := c; exact Heap.lt_size e
  | false => obtain ⟨o, e, _⟩ := c; exact Heap.lt_size e
theorem Aim.new {h : Heap} {it : Addr} (e : h.get? it = some (itO k a)) : Aim k h it a 0 := by
  cases k with
  | true => exact ⟨_, e, rfl, rfl⟩
  | false => exact ⟨_, e, rfl, rfl⟩
end
/-! two at once -/
def It2 (k1 k2 : Bool) (K : PySem.W.Frag) (a b : Addr) : It :=
  ⟨fun i H => ∃ (xs ys : List V) (x y : V), Sq k1 K H a xs ∧ Sq k2 K H b ys ∧ xs[i]? = some x ∧ ys[i]? = some y,
    fun i H v H' => ∃ T us x y, v = .ref T ∧ H T = none ∧ H' = upd H T (Fz.fz us [x, y]) ∧ (∀ xs, Sq k1 K H a xs → xs[i]? = some x) ∧ ∀ ys, Sq k2 K H b ys → ys[i]? = some y,
    fun i H => ∃ xs ys : List V, Sq k1 K H a xs ∧ Sq k2 K H b ys ∧ i ≤ xs.length ∧ i ≤ ys.length ∧ (xs.length ≤ i ∨ ys.length ≤ i)⟩
structure Z2 (k1 k2 : Bool) (a b z TI TO i1 i2 : Addr) (i : Nat) (h : Heap) : Prop where
  zz : IsZip h z TI TO .none
  ti : IsTupOf2 h TI (.ref i1) (.ref i2)
  to : ∃ x y, IsTupOf2 h TO x y
  p1 : Aim k1 h i1 a i
  p2 : Aim k2 h i2 b i
theorem mem5 {c z TI TO i1 i2 : Addr} (h : c ∈ [z, TI, TO, i1, i2]) : c = z ∨ c = TI ∨ c = TO ∨ c = i1 ∨ c = i2 := by simpa using h
theorem Z2.at {k1 k2 : Bool} {a b z TI TO i1 i2 : Addr} {i : Nat} {h h' : Heap} (st : Z2 k1 k2 a b z TI TO i1 i2 i h) (g : ∀ c ∈ [z, TI, TO, i1, i2], ∀ o, h.get? c = some o → h'.get? c = some o) : Z2 k1 k2 a b z TI TO i1 i2 i h' := by
  obtain ⟨zz, ti, ⟨x, y, to⟩, p1, p2⟩ := st
  exact ⟨g z (by simp) _ zz, g TI (by simp) _ ti, ⟨x, y, g TO (by simp) _ to⟩, p1.at (g i1 (by simp)), p2.at (g i2 (by simp))⟩
theorem Z2.lt {k1 k2 : Bool} {a b z TI TO i1 i2 : Addr} {i : Nat} {h : Heap} (st : Z2 k1 k2 a b z TI TO i1 i2 i h) {c : Addr} (hc : c ∈ [z, TI, TO, i1, i2]) : c < h.objs.size := by
  obtain ⟨zz, ti, ⟨x, y, to⟩, p1, p2⟩ := st
  rcases mem5 hc with rfl | rfl | rfl | rfl | rfl
  · exact Heap.lt_size zz
  · exact Heap.lt_size ti
  · exact Heap.lt_size to
  · exact p1.lt
  · exact p2.lt
/-! three at once -/
def It3 (k1 k2 k3 : Bool) (K : PySem.W.Frag) (a b c : Addr) : It :=
  ⟨fun i H => ∃ (xs ys zs : List V) (x y z : V), Sq k1 K H a xs ∧ Sq k2 K H b ys ∧ Sq k3 K H c zs ∧ xs[i]? = some x ∧ ys[i]? = some y ∧ zs[i]? = some z,
    fun i H v H' => ∃ T us x y z, v = .ref T ∧ H T = none ∧ H' = upd H T (Fz.fz us [x, y, z]) ∧ (∀ xs, Sq k1 K H a xs → xs[i]? = some x) ∧ (∀ ys, Sq k2 K H b ys → ys[i]? = some y) ∧ ∀ zs, Sq k3 K H c zs → zs[i]? = some z,
    fun i H => ∃ xs ys zs : List V, Sq k1 K H a xs ∧ Sq k2 K H b ys ∧ Sq k3 K H c zs ∧ i ≤ xs.length ∧ i ≤ ys.length ∧ i ≤ zs.length ∧ (xs.length ≤ i ∨ ys.length ≤ i ∨ zs.length ≤ i)⟩
structure Z3 (k1 k2 k3 : Bool) (a b c z TI TO i1 i2 i3 : Addr) (i : Nat) (h : Heap) : Prop where
  zz : IsZip h z TI TO .none
  ti : IsTupOf3 h TI (.ref i1) (.ref i2) (.ref i3)
  to : ∃ x y u, IsTupOf3 h TO x y u
  p1 : Aim k1 h i1 a i
  p2 : Aim k2 h i2 b i
  p3 : Aim k3 h i3 c i
theorem mem6 {c z TI TO i1 i2 i3 : Addr} (h : c ∈ [z, TI, TO, i1, i2, i3]) : c = z ∨ c = TI ∨ c = TO ∨ c = i1 ∨ c = i2 ∨ c = i3 := by simpa using h
theorem Z3.at {k1 k2 k3 : Bool} {a b c z TI TO i1 i2 i3 : Addr} {i : Nat} {h h' : Heap} (st : Z3 k1 k2 k3 a b c z TI TO i1 i2 i3 i h) (g : ∀ c ∈ [z, TI, TO, i1, i2, i3], ∀ o, h.get? c = some o → h'.get? c = some o) : Z3 k1 k2 k3 a b c z TI TO i1 i2 i3 i h' := by
  obtain ⟨zz, ti, ⟨x, y, u, to⟩, p1, p2, p3⟩ := st
  exact ⟨g z (by simp) _ zz, g TI (by simp) _ ti, ⟨x, y, u, g TO (by simp) _ to⟩, p1.at (g i1 (by simp)), p2.at (g i2 (by simp)), p3.at (g i3 (by simp))⟩
theorem Z3.lt {k1 k2 k3 : Bool} {a b c z TI TO i1 i2 i3 : Addr} {i : Nat} {h : Heap} (st : Z3 k1 k2 k3 a b c z TI TO i1 i2 i3 i h) {d : Addr} (hc : d ∈ [z, TI, TO, i1, i2, i3]) : d < h.objs.size := by
  obtain ⟨zz, ti, ⟨x, y, u, to⟩, p1, p2, p3⟩ := st
  rcases mem6 hc with rfl | rfl | rfl | rfl | rfl | rfl
  · exact Heap.lt_size zz
  · exact Heap.lt_size ti
  · exact Heap.lt_size to
  · exact p1.lt
  · exact p2.lt
  · exact p3.lt
/-! numbered -/
def ItE (k : Bool) (K : PySem.W.Frag) (a : Addr) : It :=
  ⟨fun i H => ∃ (xs : List V) (x : V), Sq k K H a xs ∧ xs[i]? = some x, fun i H v H' => ∃ T us x, v = .ref T ∧ H T = none ∧ H' = upd H T (Fz.fz us [.int (i : Nat), x]) ∧ ∀ xs, Sq k K H a xs → xs[i]? = some x, fun i H => ∃ xs : List V, Sq k K H a xs ∧ i = xs.length⟩
structure En (k : Bool) (a e t i : Nat) (m : Heap) : Prop where
  en : ∃ w, IsEnum m e t (i : Int) w
  it : Aim k m t a i
theorem mem2 {b x y : Addr} (h : b ∈ [x, y]) : b = x ∨ b = y := by simpa using h
theorem En.lt {k : Bool} {m : Heap} {a e t i b : Nat} (h : En k a e t i m) (hb : b ∈ [e, t]) : b < m.objs.size := by
  obtain ⟨w, g⟩ := h.en
  rcases mem2 hb with rfl | rfl
  · exact Heap.lt_size g
  · exact h.it.lt
/-! where they begin -/
section
variable {X : Cx} {e e2 e3 : Expr} {ta : TA} {p pos tpos : Pos} {elts : List Expr} {kk : Nat}
end
end Zy

namespace Dv
open PySem PySem.Spec PyProof.Rows L2

/-- what is walked: a range, a tuple, a list of the store -/
inductive Src where
  | rng (lo : Int) (n : Nat) | tup (xs : List D) | lst (i : Nat) (w : Bool) (xs : List D) | zipT (xs ys : List D) | zipL (i j : Nat) (w v : Bool) (xs ys : List D) | enu (i : Nat) (w : Bool) (xs : List D) | enuT (xs : List D)
  | zip3 (i j k : Nat) (xs ys zs : List D)
  | zTL (j : Nat) (v : Bool) (xs ys : List D) | zLT (i : Nat) (w : Bool) (xs ys : List D)
  | rdn (hi : Int) (n : Nat)
  | rup (lo c : Int) (n : Nat)
  | chs (x : Str)
/-- two things at once -/
def pr2 (p : D × D) : D := .tup [p.1, p.2]
def tr3 (p : D × D × D) : D := .tup [p.1, p.2.1, p.2.2]
def numb (xs : List D) : List D := (List.range xs.length).zipWith (fun k x => .tup [.int (k : Nat), x]) xs
def Src.items : Src → List D
  | .rng lo n => (List.range n).map fun k => .int (lo + (k : Nat))
  | .tup xs => xs
  | .lst _ _ xs => xs
  | .zipT xs ys => (xs.zip ys).map pr2
  | .zipL _ _ _ _ xs ys => (xs.zip ys).map pr2
  | .enu _ _ xs => numb xs
  | .enuT xs => numb xs
  | .zip3 _ _ _ xs ys zs => (xs.zip (ys.zip zs)).map tr3
  | .zTL _ _ xs ys => (xs.zip ys).map pr2
  | .zLT _ _ xs ys => (xs.zip ys).map pr2
  | .rdn hi n => (List.range n).map fun k => .int (hi + (k : Nat) * -1)
  | .rup lo c n => (List.range n).map fun k => .int (lo + (k : Nat) * c)
  | .chs x => x.cps.toList.map fun c => .str ⟨#[c]⟩
/-- a list that is walked stays as it is -/
def Src.chk : Src → Sto → Prop
  | .lst i w xs, S => S[i]? = some (.lst w xs)
  | .zipL i j w v xs ys, S => S[i]? = some (.lst w xs) ∧ S[j]? = some (.lst v ys)
  | .enu i w xs, S => S[i]? = some (.lst w xs)
  | .zip3 i j k xs ys zs, S => S[i]? = some (.lst true xs) ∧ S[j]? = some (.lst true ys) ∧ S[k]? = some (.lst true zs)
  | .zTL j v _ ys, S => S[j]? = some (.lst v ys)
  | .zLT i w xs _, S => S[i]? = some (.lst w xs)
  | _, _ => True
abbrev DenI := Lv → Env → Sto → R Src
def ItOf (w : Wn) (ι : List Addr) (H : Hp) : Src → It → Prop
  | .rng lo n, J => J = Itr lo n
  | .tup xs, J => ∃ a vs, SqN w.K H a vs ∧ RepL w.K ι H xs vs ∧ J = Itt w.K a
  | .lst i _ _, J => ∃ a, ι[i]? = some a ∧ J = Itl w.K a
  | .zipT xs ys, J => ∃ a b vs us, SqN w.K H a vs ∧ RepL w.K ι H xs vs ∧ SqN w.K H b us ∧ RepL w.K ι H ys us ∧ J = Zy.It2 false false w.K a b
  | .zipL i j _ _ _ _, J => ∃ a b, ι[i]? = some a ∧ ι[j]? = some b ∧ J = Zy.It2 true true w.K a b
  | .zip3 i j k _ _ _, J => ∃ a b c, ι[i]? = some a ∧ ι[j]? = some b ∧ ι[k]? = some c ∧ J = Zy.It3 true true true w.K a b c
  | .enu i _ _, J => ∃ a, ι[i]? = some a ∧ J = Zy.ItE true w.K a
  | .enuT xs, J => ∃ a vs, SqN w.K H a vs ∧ RepL w.K ι H xs vs ∧ J = Zy.ItE false w.K a
  | .zTL j _ xs _, J => ∃ a b vs, SqN w.K H a vs ∧ RepL w.K ι H xs vs ∧ ι[j]? = some b ∧ J = Zy.It2 false true w.K a b
  | .zLT i _ _ ys, J => ∃ a b us, ι[i]? = some a ∧ SqN w.K H b us ∧ RepL w.K ι H ys us ∧ J = Zy.It2 true false w.K a b
  | .rdn hi n, J => J = Itc hi (-1) n
  | .rup lo c n, J => J = Itc lo c n
  | .chs x, J => J = Its x
def PI1 (w : Wn) (ι : List Addr) (H : Hp) (Rr : It → Hp → Prop) : Src → Sto → Prop := fun src S' => ∀ H' ι' J, Le ι H ι' H' → SRep w.K w.tabs ι' S' H' → src.chk S' → ItOf w ι' H' src J → Rr J H'
def semI (w : Wn) (EX : EXT) (lv : Lv) (d : DenI) : TI := fun σ H Rr => ∃ ρ S ι, ERep w.K ι H ρ σ ∧ SRep w.K w.tabs ι S H ∧ (d lv ρ S).wp (PI1 w ι H Rr) (PX w EX ι H σ)
def iRange1 (a : DenA) : DenI := fun lv ρ S => (a lv ρ S).bind fun xs S1 => match xs with
  | [.int j] => if -4611686018427387904 ≤ j ∧ j < 4611686018427387904 then .ok (.rng 0 j.toNat) S1 else .no
  | _ => .no
def iRange2 (a : DenA) : DenI := fun lv ρ S => (a lv ρ S).bind fun xs S1 => match xs with
  | [.int i, .int j] => if -4611686018427387904 ≤ i ∧ i < 4611686018427387904 ∧ -4611686018427387904 ≤ j ∧ j < 4611686018427387904 then .ok (.rng i (j - i).toNat) S1 else .no
  | _ => .no
/-- range(i, j, -1) -/
def rdnR : List D → Sto → R Src
  | [.int i, .int j, .int c], S => if c = -1 ∧ -4611686018427387904 ≤ i ∧ i < 4611686018427387904 ∧ -4611686018427387904 ≤ j ∧ j < 4611686018427387904 then .ok (.rdn i (i - j).toNat) S else .no
  | _, _ => .no
def iRange3 (a : DenA) : DenI := fun lv ρ S => (a lv ρ S).bind rdnR
def iVal (a : Den) : DenI := fun lv ρ S => (a lv ρ S).bind fun x S1 => match x with
  | .tup xs => .ok (.tup xs) S1
  | .ref i => match S1[i]? with
    | some (.lst w xs) => .ok (.lst i w xs) S1
    | _ => .no
  | _ => .no
section
variable {X : Cx} {w : Wn} {EX : EXT} {lv : Lv} {σ : L2.St} {H : Hp} {ρ : Env} {S : Sto} {ι : List Addr} {Dn : Ends} {e tg iter : Expr} {de : Den} {p pos : Pos}
theorem PI.imp {t t' : TI} (h : PI X tg e t) (i : ∀ σ H Q, t' σ H Q → t σ H Q) : PI X tg e t' := ⟨fun pins s σ H Q I q => h.run pins s σ H Q I (i σ H Q q)⟩
theorem id_range1 {a : Expr} {ra : DenA} (hg : Gl X "range") (hm : X.mg "range" = none) (ha : PA X [a] (semA w EX lv ra)) (hs : starEach [a] X.env = [(false, eval a X.env)]) : PI X tg (.Call (.Name "range" p) [a] [] pos) (semI w EX lv (iRange1 ra)) :=
  PI.imp (pi_range1 hg hm ha hs) fun σ H Rr h => by
    obtain ⟨ρ, S, ι, he, hs, hw⟩ := h
    refine stepA (Po := fun ι H => PI1 w ι H Rr) he hs (fun l q H' ι' J l' => q H' ι' J (l.trans l')) hw fun xs S1 vs H1 ι1 l1 s1 r1 e1 h1 => ?_
    split at h1
    · rename_i j
      obtain ⟨v, rfl, q⟩ := repl1 r1
      cases q
      split at h1
      · rename_i hc
        exact ⟨j, rfl, by omega, by omega, h1 H1 ι1 _ (Le.refl _ _) s1 trivial rfl⟩
      · exact h1.elim
    · exact h1.elim
/-- any value that may be walked -/
theorem id_val {tabs : List Tb} (ha : PE X e (semE ⟨X.K, tabs⟩ EX lv de)) : PI X tg e (semI ⟨X.K, tabs⟩ EX lv (iVal de)) := by
  refine ⟨fun pins s σ H Rr I h => ?_⟩
  obtain ⟨ρ, S, ι, he, hs, hw⟩ := h
  refine thn (ha.run pins s σ H (fun v H1 => (∃ a, v = V.ref a ∧ (∃ xs, SqL X.K H1 a xs) ∧ Rr (Itl X.K a) H1) ∨ ∃ a, v = V.ref a ∧ (∃ xs, SqT X.K H1 a xs) ∧ Rr (Itt X.K a) H1) I
    (stepE (Po := fun ι H => PI1 ⟨X.K, tabs⟩ ι H Rr) he hs (fun l q H' ι' J l' => q H' ι' J (l.trans l')) hw fun x S1 v H1 ι1 l1 s1 r1 e1 h1 => ?_)) fun v s1 h1 => ?_
  · cases x <;> first | exact False.elim h1 | skip
    · rename_i xs
      obtain ⟨a, vs, rfl, q, l⟩ := r1
      exact .inr ⟨a, rfl, ⟨vs, q.t⟩, h1 H1 ι1 _ (Le.refl _ _) s1 trivial ⟨a, vs, q, l, rfl⟩⟩
    · rename_i i
      obtain ⟨a, rfl, hA⟩ := r1
      dsimp only at h1
      split at h1
      · rename_i w xs e5
        obtain ⟨a', vs, ha', hq, l⟩ := s1.list e5
        rw [hA] at ha'
        cases ha'
        exact .inl ⟨a, rfl, ⟨vs, hq⟩, h1 H1 ι1 _ (Le.refl _ _) s1 e5 ⟨a, hA, rfl⟩⟩
      · exact h1.elim
  · obtain ⟨x, H1, I1, r1, h2⟩ := h1
    rcases h2 with ⟨a, rfl, ⟨xs, hq⟩, q⟩ | ⟨a, rfl, ⟨xs, hq⟩, q⟩
    · cases r1
      obtain ⟨its, rv, pl, hz⟩ := I1.list hq
      refine wpAny_pyIter_list pl.isList ?_
      refine ⟨s1.heap.objs.size, [s1.heap.objs.size], _, _, H1, rfl, I1.kept (t' := s1.toks) fun b o e => Heap.get?_push_of_some _ e, turn_list a _, ⟨_, Heap.get?_push_size _ rfl, rfl, rfl⟩, fun b hb => ?_, q⟩
      rw [List.mem_singleton.mp hb]
      exact I1.fpOk (Nat.le_refl _) (I1.hok.fresh (Nat.le_refl _))
    · cases r1
      obtain ⟨its, rv, pl, hz⟩ := I1.tuple hq
      refine wpAny_pyIter_tuple (show s1.heap.IsTuple a its.toArray from pl) ?_
      refine ⟨s1.heap.objs.size, [s1.heap.objs.size], _, _, H1, rfl, I1.kept (t' := s1.toks) fun b o e => Heap.get?_push_of_some _ e, turn_tuple a _, ⟨_, Heap.get?_push_size _ rfl, rfl, rfl⟩, fun b hb => ?_, q⟩
      rw [List.mem_singleton.mp hb]
      exact I1.fpOk (Nat.le_refl _) (I1.hok.fresh (Nat.le_refl _))

theorem zip_at {xs ys : List D} {i : Nat} {d : D} (h : ((xs.zip ys).map pr2)[i]? = some d) : ∃ x y, xs[i]? = some x ∧ ys[i]? = some y ∧ d = .tup [x, y] := by
  rw [List.getElem?_map] at h
  obtain ⟨p, h1, h2⟩ := Option.map_eq_some_iff.mp h
  rw [List.getElem?_zip_eq_some] at h1
  exact ⟨p.1, p.2, h1.1, h1.2, h2.symm⟩
theorem numb_at {xs : List D} {i : Nat} {d : D} (h : (numb xs)[i]? = some d) : ∃ x, xs[i]? = some x ∧ d = .tup [.int (i : Nat), x] := by
  unfold numb at h
  rw [List.getElem?_zipWith] at h
  have hi : i < xs.length := by
    rcases Nat.lt_or_ge i xs.length with z | z
    · exact z
    · rw [List.getElem?_eq_none (l := xs) z] at h
      simp at h
  rw [List.getElem?_range hi, List.getElem?_eq_getElem hi] at h
  cases h
  exact ⟨_, List.getElem?_eq_getElem hi, rfl⟩
theorem pair_new {T : Addr} {us : List Value} {d1 d2 : D} {x y : V} (hs : SRep w.K w.tabs ι S H) (hT : H T = none) (r1 : Rep w.K ι H d1 x) (r2 : Rep w.K ι H d2 y) : Le ι H ι (upd H T (Fz.fz us [x, y])) ∧ SRep w.K w.tabs ι S (upd H T (Fz.fz us [x, y])) ∧ Rep w.K ι (upd H T (Fz.fz us [x, y])) (.tup [d1, d2]) (.ref T) :=
  ⟨le_upd hT, hs.extra hT, repT hT ⟨x, [y], rfl, r1, y, [], rfl, r2, rfl⟩⟩
theorem three_new {T : Addr} {us : List Value} {d1 d2 d3 : D} {x y z : V} (hs : SRep w.K w.tabs ι S H) (hT : H T = none) (r1 : Rep w.K ι H d1 x) (r2 : Rep w.K ι H d2 y) (r3 : Rep w.K ι H d3 z) : Le ι H ι (upd H T (Fz.fz us [x, y, z])) ∧ SRep w.K w.tabs ι S (upd H T (Fz.fz us [x, y, z])) ∧ Rep w.K ι (upd H T (Fz.fz us [x, y, z])) (.tup [d1, d2, d3]) (.ref T) :=
  ⟨le_upd hT, hs.extra hT, repT hT ⟨x, [y, z], rfl, r1, y, [z], rfl, r2, z, [], rfl, r3, rfl⟩⟩
theorem zip3_at {xs ys zs : List D} {i : Nat} {d : D} (h : ((xs.zip (ys.zip zs)).map tr3)[i]? = some d) : ∃ x y z, xs[i]? = some x ∧ ys[i]? = some y ∧ zs[i]? = some z ∧ d = .tup [x, y, z] := by
  rw [List.getElem?_map] at h
  obtain ⟨p, h1, h2⟩ := Option.map_eq_some_iff.mp h
  rw [List.getElem?_zip_eq_some, List.getElem?_zip_eq_some] at h1
  exact ⟨p.1, p.2.1, p.2.2, h1.1, h1.2.1, h1.2.2, h2.symm⟩
/-- the turns of a walk: where an item is left, it comes; where none is, it stops -/
theorem it_go {src : Src} {J : It} {ι0 : List Addr} {H0 : Hp} {i : Nat} {d : D} (hJ : ItOf w ι0 H0 src J) (l : Le ι0 H0 ι H) (hs : SRep w.K w.tabs ι S H) (hc : src.chk S) (hd : src.items[i]? = some d) :
    J.go i H ∧ ∀ x H', J.yld i H x H' → Le ι H ι H' ∧ SRep w.K w.tabs ι S H' ∧ Rep w.K ι H' d x := by
  cases src with
  | rng lo n =>
    cases hJ
    unfold Src.items at hd
    have hi : i < n := by
      have := (List.getElem?_eq_some_iff.mp hd).1
      simpa using this
    rw [List.getElem?_map, List.getElem?_range hi] at hd
    cases hd
    exact ⟨hi, fun x H' y => by obtain ⟨rfl, rfl⟩ := y; exact ⟨Le.refl _ _, hs, rfl⟩⟩
  | chs y =>
    cases hJ
    have hd : (y.cps.toList.map fun c => D.str ⟨#[c]⟩)[i]? = some d := hd
    rw [List.getElem?_map] at hd
    cases e : y.cps.toList[i]? with
    | none => rw [e] at hd; cases hd
    | some c =>
      rw [e] at hd
      cases hd
      have hi := (List.getElem?_eq_some_iff.mp e).1
      refine ⟨show i < y.cps.size by simpa using hi, fun x H' z => ?_⟩
      obtain ⟨rfl, c', e2, rfl⟩ := z
      have e3 : y.cps[i]? = some c := by rw [← e]; simp
      rw [e3] at e2
      cases e2
      exact ⟨Le.refl _ _, hs, rfl⟩
  | rdn lo n =>
    cases hJ
    unfold Src.items at hd
    have hi : i < n := by
      have := (List.getElem?_eq_some_iff.mp hd).1
      simpa using this
    rw [List.getElem?_map, List.getElem?_range hi] at hd
    cases hd
    exact ⟨hi, fun x H' y => by obtain ⟨rfl, rfl⟩ := y; exact ⟨Le.refl _ _, hs, rfl⟩⟩
  | rup lo c n =>
    cases hJ
    unfold Src.items at hd
    have hi : i < n := by
      have := (List.getElem?_eq_some_iff.mp hd).1
      simpa using this
    rw [List.getElem?_map, List.getElem?_range hi] at hd
    cases hd
    exact ⟨hi, fun x H' y => by obtain ⟨rfl, rfl⟩ := y; exact ⟨Le.refl _ _, hs, rfl⟩⟩
  | tup xs =>
    obtain ⟨a, vs, q, r, rfl⟩ := hJ
    have q2 := (l.sn q).t
    have r2 := RepL.mono l _ _ r
    obtain ⟨v, h1, h2⟩ := r2.get hd
    refine ⟨⟨vs, v, q2, h1⟩, fun x H' y => ?_⟩
    obtain ⟨e1, e2⟩ := y
    have e3 := e2 vs q2
    rw [h1] at e3
    cases e3
    subst e1
    exact ⟨Le.refl _ _, hs, h2⟩
  | lst j b xs =>
    obtain ⟨a, hA, rfl⟩ := hJ
    obtain ⟨a', vs, ha', hq, r⟩ := hs.list (show S[j]? = some (.lst b xs) from hc)
    rw [l.ix j a hA] at ha'
    cases ha'
    obtain ⟨v, h1, h2⟩ := r.get hd
    refine ⟨⟨vs, v, hq, h1⟩, fun x H' y => ?_⟩
    obtain ⟨e1, e2⟩ := y
    have e3 := e2 vs hq
    rw [h1] at e3
    cases e3
    subst e1
    exact ⟨Le.refl _ _, hs, h2⟩
  | zipT xs ys =>
    obtain ⟨a, b, vs, us, q1, r1, q2, r2, rfl⟩ := hJ
    obtain ⟨x, y, h1, h2, rfl⟩ := zip_at hd
    obtain ⟨v, v1, v2⟩ := (RepL.mono l _ _ r1).get h1
    obtain ⟨u, u1, u2⟩ := (RepL.mono l _ _ r2).get h2
    refine ⟨⟨vs, us, v, u, (l.sn q1).t, (l.sn q2).t, v1, u1⟩, fun z H' y => ?_⟩
    obtain ⟨T, _, x', y', rfl, hT, rfl, e1, e2⟩ := y
    have e3 := e1 vs (l.sn q1).t
    have e4 := e2 us (l.sn q2).t
    rw [v1] at e3
    rw [u1] at e4
    cases e3; cases e4
    exact pair_new hs hT v2 u2
  | zipL j j2 w1 w2 xs ys =>
    obtain ⟨a, b, hA, hB, rfl⟩ := hJ
    obtain ⟨x, y, h1, h2, rfl⟩ := zip_at hd
    obtain ⟨a', vs, ha', q1, r1⟩ := hs.list hc.1
    obtain ⟨b', us, hb', q2, r2⟩ := hs.list hc.2
    rw [l.ix j a hA] at ha'
    rw [l.ix j2 b hB] at hb'
    cases ha'; cases hb'
    obtain ⟨v, v1, v2⟩ := r1.get h1
    obtain ⟨u, u1, u2⟩ := r2.get h2
    refine ⟨⟨vs, us, v, u, q1, q2, v1, u1⟩, fun z H' y => ?_⟩
    obtain ⟨T, _, x', y', rfl, hT, rfl, e1, e2⟩ := y
    have e3 := e1 vs q1
    have e4 := e2 us q2
    rw [v1] at e3
    rw [u1] at e4
    cases e3; cases e4
    exact pair_new hs hT v2 u2
  | enu j w1 xs =>
    obtain ⟨a, hA, rfl⟩ := hJ
    obtain ⟨x, h1, rfl⟩ := numb_at hd
    obtain ⟨a', vs, ha', q1, r1⟩ := hs.list (show S[j]? = some (.lst w1 xs) from hc)
    rw [l.ix j a hA] at ha'
    cases ha'
    obtain ⟨v, v1, v2⟩ := r1.get h1
    refine ⟨⟨vs, v, q1, v1⟩, fun z H' y => ?_⟩
    obtain ⟨T, _, x', rfl, hT, rfl, e1⟩ := y
    have e3 := e1 vs q1
    rw [v1] at e3
    cases e3
    exact pair_new (d1 := .int (i : Nat)) hs hT rfl v2
  | enuT xs =>
    obtain ⟨a, vs, q1, r1, rfl⟩ := hJ
    obtain ⟨x, h1, rfl⟩ := numb_at hd
    obtain ⟨v, v1, v2⟩ := (RepL.mono l _ _ r1).get h1
    refine ⟨⟨vs, v, (l.sn q1).t, v1⟩, fun z H' y => ?_⟩
    obtain ⟨T, _, x', rfl, hT, rfl, e1⟩ := y
    have e3 := e1 vs (l.sn q1).t
    rw [v1] at e3
    cases e3
    exact pair_new (d1 := .int (i : Nat)) hs hT rfl v2
  | zip3 j1 j2 j3 xs ys zs =>
    obtain ⟨a, b, c, hA, hB, hC, rfl⟩ := hJ
    obtain ⟨x, y, z, h1, h2, h3, rfl⟩ := zip3_at hd
    obtain ⟨a', vs, ha', q1, r1⟩ := hs.list hc.1
    obtain ⟨b', us, hb', q2, r2⟩ := hs.list hc.2.1
    obtain ⟨c', ws, hc', q3, r3⟩ := hs.list hc.2.2
    rw [l.ix j1 a hA] at ha'
    rw [l.ix j2 b hB] at hb'
    rw [l.ix j3 c hC] at hc'
    cases ha'; cases hb'; cases hc'
    obtain ⟨v, v1, v2⟩ := r1.get h1
    obtain ⟨u, u1, u2⟩ := r2.get h2
    obtain ⟨t, t1, t2⟩ := r3.get h3
    refine ⟨⟨vs, us, ws, v, u, t, q1, q2, q3, v1, u1, t1⟩, fun z H' y => ?_⟩
    obtain ⟨T, _, x', y', z', rfl, hT, rfl, e1, e2, e3⟩ := y
    have f1 := e1 vs q1
    have f2 := e2 us q2
    have f3 := e3 ws q3
    rw [v1] at f1
    rw [u1] at f2
    rw [t1] at f3
    cases f1; cases f2; cases f3
    exact three_new hs hT v2 u2 t2
  | zTL j2 w2 xs ys =>
    obtain ⟨a, b, vs, q1, r1, hB, rfl⟩ := hJ
    obtain ⟨x, y, h1, h2, rfl⟩ := zip_at hd
    obtain ⟨b', us, hb', q2, r2⟩ := hs.list (show S[j2]? = some (.lst w2 ys) from hc)
    rw [l.ix j2 b hB] at hb'
    cases hb'
    obtain ⟨v, v1, v2⟩ := (RepL.mono l _ _ r1).get h1
    obtain ⟨u, u1, u2⟩ := r2.get h2
    refine ⟨⟨vs, us, v, u, (l.sn q1).t, q2, v1, u1⟩, fun z H' y => ?_⟩
    obtain ⟨T, _, x', y', rfl, hT, rfl, e1, e2⟩ := y
    have e3 := e1 vs (l.sn q1).t
    have e4 := e2 us q2
    rw [v1] at e3
    rw [u1] at e4
    cases e3; cases e4
    exact pair_new hs hT v2 u2
  | zLT j w1 xs ys =>
    obtain ⟨a, b, us, hA, q2, r2, rfl⟩ := hJ
    obtain ⟨x, y, h1, h2, rfl⟩ := zip_at hd
    obtain ⟨a', vs, ha', q1, r1⟩ := hs.list (show S[j]? = some (.lst w1 xs) from hc)
    rw [l.ix j a hA] at ha'
    cases ha'
    obtain ⟨v, v1, v2⟩ := r1.get h1
    obtain ⟨u, u1, u2⟩ := (RepL.mono l _ _ r2).get h2
    refine ⟨⟨vs, us, v, u, q1, (l.sn q2).t, v1, u1⟩, fun z H' y => ?_⟩
    obtain ⟨T, _, x', y', rfl, hT, rfl, e1, e2⟩ := y
    have e3 := e1 vs q1
    have e4 := e2 us (l.sn q2).t
    rw [v1] at e3
    rw [u1] at e4
    cases e3; cases e4
    exact pair_new hs hT v2 u2
theorem it_stop {src : Src} {J : It} {ι0 : List Addr} {H0 : Hp} (hJ : ItOf w ι0 H0 src J) (l : Le ι0 H0 ι H) (hs : SRep w.K w.tabs ι S H) (hc : src.chk S) : J.stop src.items.length H := by
  cases src with
  | rng lo n =>
    cases hJ
    show n ≤ _
    simp [Src.items]
  | chs y =>
    cases hJ
    show y.cps.size ≤ _
    simp [Src.items]
  | rdn lo n =>
    cases hJ
    show n ≤ _
    simp [Src.items]
  | rup lo c n =>
    cases hJ
    show n ≤ _
    simp [Src.items]
  | tup xs =>
    obtain ⟨a, vs, q, r, rfl⟩ := hJ
    exact ⟨vs, (l.sn q).t, by rw [← r.len]; exact Nat.le_refl _⟩
  | lst j b xs =>
    obtain ⟨a, hA, rfl⟩ := hJ
    obtain ⟨a', vs, ha', hq, r⟩ := hs.list (show S[j]? = some (.lst b xs) from hc)
    rw [l.ix j a hA] at ha'
    cases ha'
    exact ⟨vs, hq, by rw [← r.len]; exact Nat.le_refl _⟩
  | zipT xs ys =>
    obtain ⟨a, b, vs, us, q1, r1, q2, r2, rfl⟩ := hJ
    refine ⟨vs, us, (l.sn q1).t, (l.sn q2).t, ?_⟩
    have z1 := r1.len
    have z2 := r2.len
    simp only [Src.items, List.length_map, List.length_zip]
    omega
  | zipL j j2 w1 w2 xs ys =>
    obtain ⟨a, b, hA, hB, rfl⟩ := hJ
    obtain ⟨a', vs, ha', q1, r1⟩ := hs.list hc.1
    obtain ⟨b', us, hb', q2, r2⟩ := hs.list hc.2
    rw [l.ix j a hA] at ha'
    rw [l.ix j2 b hB] at hb'
    cases ha'; cases hb'
    refine ⟨vs, us, q1, q2, ?_⟩
    have z1 := r1.len
    have z2 := r2.len
    simp only [Src.items, List.length_map, List.length_zip]
    omega
  | enu j w1 xs =>
    obtain ⟨a, hA, rfl⟩ := hJ
    obtain ⟨a', vs, ha', q1, r1⟩ := hs.list (show S[j]? = some (.lst w1 xs) from hc)
    rw [l.ix j a hA] at ha'
    cases ha'
    refine ⟨vs, q1, ?_⟩
    have z1 := r1.len
    simp only [Src.items, numb, List.length_zipWith, List.length_range]
    omega
  | enuT xs =>
    obtain ⟨a, vs, q1, r1, rfl⟩ := hJ
    refine ⟨vs, (l.sn q1).t, ?_⟩
    have z1 := r1.len
    simp only [Src.items, numb, List.length_zipWith, List.length_range]
    omega
  | zip3 j1 j2 j3 xs ys zs =>
    obtain ⟨a, b, c, hA, hB, hC, rfl⟩ := hJ
    obtain ⟨a', vs, ha', q1, r1⟩ := hs.list hc.1
    obtain ⟨b', us, hb', q2, r2⟩ := hs.list hc.2.1
    obtain ⟨c', ws, hc', q3, r3⟩ := hs.list hc.2.2
    rw [l.ix j1 a hA] at ha'
    rw [l.ix j2 b hB] at hb'
    rw [l.ix j3 c hC] at hc'
    cases ha'; cases hb'; cases hc'
    refine ⟨vs, us, ws, q1, q2, q3, ?_⟩
    have z1 := r1.len
    have z2 := r2.len
    have z3 := r3.len
    simp only [Src.items, List.length_map, List.length_zip]
    omega
  | zTL j2 w2 xs ys =>
    obtain ⟨a, b, vs, q1, r1, hB, rfl⟩ := hJ
    obtain ⟨b', us, hb', q2, r2⟩ := hs.list (show S[j2]? = some (.lst w2 ys) from hc)
    rw [l.ix j2 b hB] at hb'
    cases hb'
    refine ⟨vs, us, (l.sn q1).t, q2, ?_⟩
    have z1 := r1.len
    have z2 := r2.len
    simp only [Src.items, List.length_map, List.length_zip]
    omega
  | zLT j w1 xs ys =>
    obtain ⟨a, b, us, hA, q2, r2, rfl⟩ := hJ
    obtain ⟨a', vs, ha', q1, r1⟩ := hs.list (show S[j]? = some (.lst w1 xs) from hc)
    rw [l.ix j a hA] at ha'
    cases ha'
    refine ⟨vs, us, q1, (l.sn q2).t, ?_⟩
    have z1 := r1.len
    have z2 := r2.len
    simp only [Src.items, List.length_map, List.length_zip]
    omega

/-! ### for -/
open Classical in
noncomputable def forGo (chk : Sto → Prop) (t : Tg) (body : Env → Sto → R Fl) : List D → Env → Sto → R Fl
  | [], ρ, S => if chk S then .ok (.nx ρ) S else .no
  | x :: xs, ρ, S => if chk S then (match tgD t x ρ with
    | some ρ1 => (body ρ1 S).bind fun f S2 => match f with
      | .nx ρ2 => forGo chk t body xs ρ2 S2
      | .ct ρ2 => forGo chk t body xs ρ2 S2
      | .bk ρ2 => .ok (.nx ρ2) S2
      | .rt d => .ok (.rt d) S2
      | .xc c ρ2 => .ok (.xc c ρ2) S2
    | none => .no) else .no
noncomputable def sFor (di : DenI) (t : Tg) (body : DenS) : DenS := fun lv ρ S => (di lv ρ S).bindS ρ fun src S1 => forGo src.chk t (fun ρ S => body lv ρ S) src.items ρ S1
theorem sd_for {di : DenI} {t : Tg} {bd : DenS} {bs : List Stmt} (hp : PassesOwn (model X.prog X.w) X.A X.env X.xe) (hc : X.calm = true) (hi : PI X tg iter (semI w EX lv di)) (hg : PG X tg (semG w t)) (hb : PSs X bs (semS w EX lv bd))
    (hs : ∀ x, foldedSetIterable iter X.env x = pure x) : PS X (.For tg iter bs [] pos) (semS w EX lv (sFor di t bd)) := PS.imp (ps_for hp hc hi hg hb hs) fun Dn σ H h => by
  obtain ⟨ρ, S, ι, he, hs, hw⟩ := h
  refine ⟨ρ, S, ι, he, hs, ?_⟩
  unfold sFor at hw
  cases e : di lv ρ S with
  | no => rw [e] at hw; exact hw.elim
  | ex c S1 => rw [e] at hw; exact fun H1 ι1 l s1 => hw σ H1 ι1 l s1 (he.mono l)
  | ok src S1 =>
    rw [e] at hw
    intro H1 ι1 J l1 s1 hck hJ
    have hw : (forGo src.chk t (fun ρ S => bd lv ρ S) src.items ρ S1).wp (PF w EX ι H Dn) noX := hw
    refine ⟨fun i m σ' H' => m = src.items.length - i ∧ i ≤ src.items.length ∧ ∃ ρ' S' ι', ERep w.K ι' H' ρ' σ' ∧ SRep w.K w.tabs ι' S' H' ∧ Le ι1 H1 ι' H' ∧ (forGo src.chk t (fun ρ S => bd lv ρ S) (src.items.drop i) ρ' S').wp (PF w EX ι' H' Dn) noX,
      ⟨_, rfl, Nat.zero_le _, ρ, S1, ι1, he.mono l1, s1, Le.refl _ _, R.wp_mono hw (fun f S2 q => q.mono l1) fun _ _ q => q⟩, ?_⟩
    rintro i m σ' H' ⟨rfl, hi, ρ', S', ι', e', s', l', w'⟩
    by_cases hlt : i < src.items.length
    · rw [List.drop_eq_getElem_cons hlt] at w'
      unfold forGo at w'
      split at w'
      · rename_i hck'
        split at w'
        · rename_i ρ1 et
          obtain ⟨g1, g2⟩ := it_go hJ l' s' hck' (List.getElem?_eq_getElem hlt)
          refine .inr ⟨g1, fun σ2 H2 => ∃ ρ2 S2 ι2, ERep w.K ι2 H2 ρ2 σ2 ∧ SRep w.K w.tabs ι2 S2 H2 ∧ Le ι' H' ι2 H2 ∧ (forGo src.chk t (fun ρ S => bd lv ρ S) (src.items.drop (i + 1)) ρ2 S2).wp (PF w EX ι2 H2 Dn) noX, fun σ2 H2 h2 => ?_, fun x H2 y => ?_⟩
          · obtain ⟨ρ2, S2, ι2, q1, q2, q3, q4⟩ := h2
            exact ⟨_, by omega, rfl, hlt, ρ2, S2, ι2, q1, q2, l'.trans q3, q4⟩
          · obtain ⟨lX, sX, rx⟩ := g2 x H2 y
            have e' := e'.mono lX
            have s' := sX
            have w' := R.wp_mono w' (fun _ _ q => q.mono lX) fun _ _ q => q
            refine ⟨ρ', ι', _, ρ1, e', rx, et, fun σ2 e2 _ => ?_⟩
            refine ⟨ρ1, S', ι', e2, s', R.wp_mono (R.wp_bind.mp w') (fun f S2 hf => ?_) fun _ _ q => q⟩
            cases f with
            | nx ρ2 => exact fun σ3 H3 ι3 l3 s3 e3 => ⟨ρ2, S2, ι3, e3, s3, lX.trans l3, R.wp_mono hf (fun f S4 q => q.mono l3) fun _ _ q => q⟩
            | ct ρ2 => exact fun σ3 H3 ι3 l3 s3 e3 => ⟨ρ2, S2, ι3, e3, s3, lX.trans l3, R.wp_mono hf (fun f S4 q => q.mono l3) fun _ _ q => q⟩
            | bk ρ2 => exact hf
            | rt d => exact hf
            | xc c ρ2 => exact hf
        · exact w'.elim
      · exact w'.elim
    · have ei : i = src.items.length := by omega
      subst ei
      rw [List.drop_length] at w'
      unfold forGo at w'
      split at w'
      · rename_i hck'
        exact .inl ⟨it_stop hJ l' s' hck', w' σ' H' ι' (Le.refl _ _) s' e'⟩
      · exact w'.elim

/-! ### while -/
def whGo (c : Env → Sto → R Bool) (body : Env → Sto → R Fl) : Nat → Env → Sto → R Fl
  | 0, _, _ => .no
  | n + 1, ρ, S => (c ρ S).bindS ρ fun b S1 => if b = true then (body ρ S1).bind fun f S2 => match f with
      | .nx ρ2 => whGo c body n ρ2 S2
      | .ct ρ2 => whGo c body n ρ2 S2
      | .bk ρ2 => .ok (.nx ρ2) S2
      | .rt d => .ok (.rt d) S2
      | .xc c ρ2 => .ok (.xc c ρ2) S2
    else .ok (.nx ρ) S1
/-- so many turns at most -/
def sWhile (n : Nat) (c : DenT) (body : DenS) : DenS := fun lv ρ S => whGo (fun ρ S => c lv ρ S) (fun ρ S => body lv ρ S) n ρ S
end
end Dv

namespace Dv
open PySem PySem.Spec PyProof.Rows L2 Gr

/-- the names of a block forgotten -/
def wipeE (ρ : Env) : List Nat → Env
  | [] => ρ
  | v :: vs => (wipeE ρ vs).set v none
theorem ERep.unset {K : PySem.W.Frag} {ι : List Addr} {H : Hp} {ρ : Env} {σ : L2.St} {i : Nat} (h : ERep K ι H ρ σ) : ERep K ι H (ρ.set i none) (σ.set i none) := by
  refine ⟨by rw [List.length_set, List.length_set]; exact h.1, fun j e hj => ?_⟩
  by_cases hij : i = j
  · subst hij
    by_cases hi : i < ρ.length
    · rw [List.getElem?_set_self hi] at hj
      cases hj
    · rw [List.getElem?_eq_none (by rw [List.length_set]; omega)] at hj
      cases hj
  · rw [List.getElem?_set_ne hij] at hj
    obtain ⟨u, h1, h2⟩ := h.2 j e hj
    exact ⟨u, by rw [List.getElem?_set_ne hij]; exact h1, h2⟩
theorem ERep.wiped {K : PySem.W.Frag} {ι : List Addr} {H : Hp} {ρ : Env} {σ : L2.St} (h : ERep K ι H ρ σ) : ∀ vs : List Nat, ERep K ι H (wipeE ρ vs) (wipe σ vs)
  | [] => h
  | _ :: vs => (h.wiped vs).unset
abbrev noE : EXT := fun _ _ _ => False
def tYesD : DenT := fun _ _ S => .ok true S

/-! ### list comprehensions -/
open Classical in
noncomputable def lcGo (n : Nat) (chk : Sto → Prop) (t : Tg) (cond : Env → Sto → R Bool) (elt : Env → Sto → R D) (ρ : Env) : List D → Sto → R D
  | [], S => if chk S then .ok (.ref n) S else .no
  | x :: xs, S => if chk S then (match tgD t x ρ with
    | some ρ1 => (quiet (cond ρ1 S)).bind fun b S1 => if b = true then (quiet (elt ρ1 S1)).bind fun y S2 => match S2[n]? with
        | some (.lst true acc) => if acc.length < mx then lcGo n chk t cond elt ρ xs (S2.set n (.lst true (acc ++ [y]))) else .no
        | _ => .no
      else lcGo n chk t cond elt ρ xs S1
    | none => .no) else .no
noncomputable def dLc (di : DenI) (t : Tg) (cond : DenT) (elt : Den) (vs : List Nat) : Den := fun lv ρ S => (di lv ρ S).bind fun src S1 =>
  lcGo S1.length src.chk t (fun ρ S => cond lv ρ S) (fun ρ S => elt lv ρ S) (wipeE ρ vs) src.items (S1 ++ [.lst true []])
theorem quiet_bind {α β : Type} {x : R α} {f : α → Sto → R β} {Q : β → Sto → Prop} {W W' : Nat → Sto → Prop} (h : ((quiet x).bind f).wp Q W) : x.wp (fun a S => (f a S).wp Q W) W' := quiet_wp (R.wp_bind.mp h)
section
variable {X : Cx} {w : Wn} {EX : EXT} {lv : Lv} {σ : L2.St} {H : Hp} {ρ : Env} {S : Sto} {ι : List Addr} {Dn : Ends} {elt tg iter : Expr} {ifs : List Expr} {scope : Scope} {own : List (Str × Nat)} {p pos : Pos} {di : DenI} {t : Tg} {tc : DenT} {de : Den}
theorem lc_read {Q : VK} (hv : ∀ i ∈ t.slots, i ∈ own.map (·.2)) (h : semE w EX lv (dLc di t tc de (own.map (·.2))) σ H Q) :
    tLc (semI w EX lv di) (semG w t) (semT w noE lv tc) (semE w noE lv de) (own.map (·.2)) σ H Q := by
  obtain ⟨ρ, S, ι, he, hs, hw⟩ := h
  refine ⟨ρ, S, ι, he, hs, ?_⟩
  unfold dLc at hw
  cases e : di lv ρ S with
  | no => rw [e] at hw; exact hw.elim
  | ex c S1 => rw [e] at hw; exact hw
  | ok src S1 =>
    rw [e] at hw
    intro H1 ι1 J l1 s1 hck hJ D hD
    have hw : (lcGo S1.length src.chk t (fun ρ S => tc lv ρ S) (fun ρ S => de lv ρ S) (wipeE ρ (own.map (·.2))) src.items (S1 ++ [.lst true []])).wp (PV w ι H Q) (PX w EX ι H σ) := hw
    obtain ⟨s2, l2, r2⟩ := new_lst (w := w) s1 hD (xs := []) (vs := []) rfl
    have e2 : ERep w.K (ι1 ++ [D]) (upd H1 D (.lst [])) ρ σ := he.mono (l1.trans l2)
    refine ⟨fun i m H' => m = src.items.length - i ∧ i ≤ src.items.length ∧ ∃ S' ι', ERep w.K ι' H' ρ σ ∧ SRep w.K w.tabs ι' S' H' ∧ Le (ι1 ++ [D]) (upd H1 D (.lst [])) ι' H' ∧
      (lcGo S1.length src.chk t (fun ρ S => tc lv ρ S) (fun ρ S => de lv ρ S) (wipeE ρ (own.map (·.2))) (src.items.drop i) S').wp (PV w ι' H' Q) (PX w EX ι' H' σ),
      ⟨_, rfl, Nat.zero_le _, _, _, e2, s2, Le.refl _ _, R.wp_mono hw (fun f S2 q => q.mono (l1.trans l2)) fun _ _ q => q.mono (l1.trans l2)⟩, ?_⟩
    rintro i m H' ⟨rfl, hi, S', ι', e', s', l', w'⟩
    have hD' : ι'[S1.length]? = some D := by
      obtain ⟨a, ea, q⟩ := Rep.mono l' _ _ r2
      cases ea
      exact q
    have lall := l2.trans l'
    by_cases hlt : i < src.items.length
    · rw [List.drop_eq_getElem_cons hlt] at w'
      unfold lcGo at w'
      split at w'
      · rename_i hck'
        split at w'
        · rename_i ρ1 et
          obtain ⟨g1, g2⟩ := it_go hJ lall s' hck' (List.getElem?_eq_getElem hlt)
          refine .inr ⟨g1, fun H2 => ∃ S2 ι2, ERep w.K ι2 H2 ρ σ ∧ SRep w.K w.tabs ι2 S2 H2 ∧ Le ι' H' ι2 H2 ∧ (lcGo S1.length src.chk t (fun ρ S => tc lv ρ S) (fun ρ S => de lv ρ S) (wipeE ρ (own.map (·.2))) (src.items.drop (i + 1)) S2).wp (PV w ι2 H2 Q) (PX w EX ι2 H2 σ), fun H2 h2 => ?_, fun x H2 y => ?_⟩
          · obtain ⟨S2, ι2, q1, q2, q3, q4⟩ := h2
            exact ⟨_, by omega, rfl, hlt, S2, ι2, q1, q2, l'.trans q3, q4⟩
          · obtain ⟨lX, sX, rx⟩ := g2 x H2 y
            have e' := e'.mono lX
            have s' := sX
            have w' := R.wp_mono w' (fun _ _ q => q.mono lX) fun _ _ q => q.mono lX
            refine ⟨_, ι', _, ρ1, e'.wiped _, rx, et, fun σ2 e2 k2 => ?_⟩
            refine ⟨?_, ?_⟩
            · rw [k2 _ hv]
              have : ∀ vs : List Nat, (∀ i ∈ vs, i ∈ own.map (·.2)) → wipe (wipe σ vs) (own.map (·.2)) = wipe σ (own.map (·.2)) := fun vs => by
                induction vs with
                | nil => intro _; rfl
                | cons u us ih =>
                  intro hu
                  show wipe ((wipe σ us).set u none) _ = _
                  rw [wipe_set (hu u List.mem_cons_self)]
                  exact ih fun i hi => hu i (List.mem_cons_of_mem _ hi)
              exact this _ fun _ h => h
            refine ⟨ρ1, S', ι', e2, s', R.wp_mono (quiet_bind (W' := PX w noE ι' H2 σ2) w') (fun b S2 hb => ?_) fun _ _ q => q⟩
            intro H3 ι3 l3 s3
            cases b with
            | false => exact ⟨S2, ι3, e'.mono l3, s3, lX.trans l3, R.wp_mono hb (fun _ _ q => q.mono l3) fun _ _ q => q.mono l3⟩
            | true =>
              refine ⟨ρ1, S2, ι3, e2.mono l3, s3, R.wp_mono (quiet_bind (W' := PX w noE ι3 H3 σ2) hb) (fun yd S4 hy => ?_) fun _ _ q => q⟩
              intro vy H4 ι4 l4 s4 ry
              try dsimp only at hy
              split at hy
              · rename_i acc ea
                split at hy
                · rename_i hz
                  have hD4 := l4.ix _ _ (l3.ix _ _ hD')
                  obtain ⟨vacc, k1, k2⟩ := s4.obj _ _ D ea hD4
                  have l5 : Le ι4 H4 ι4 (upd H4 D (.lst (vacc ++ [vy]))) := ⟨fun _ _ z => z, fun b vs z => by
                      rw [upd_ne (fun q => by rw [q, k1] at z; cases z)]; exact z, fun b o u z => by
                      rw [upd_ne (fun q => by rw [q, k1] at z; cases z)]; exact z⟩
                  obtain ⟨s5, _⟩ := s4.put (u := .lst (vacc ++ [vy])) (o' := .lst true (acc ++ [yd])) ea hD4 rfl rfl ⟨_, upd_same, RepL.mono l5 _ _ (k2.app (RepL.one ry))⟩
                  have l35 := (l3.trans l4).trans l5
                  exact ⟨vacc, k1, by rw [← k2.len]; exact mx_lt hz, _, ι4, e'.mono l35, s5, lX.trans l35, R.wp_mono hy (fun _ _ q => q.mono l35) fun _ _ q => q.mono l35⟩
                · exact hy.elim
              · exact hy.elim
        · exact w'.elim
      · exact w'.elim
    · have ei : i = src.items.length := by omega
      subst ei
      rw [List.drop_length] at w'
      unfold lcGo at w'
      split at w'
      · rename_i hck'
        exact .inl ⟨it_stop hJ lall s' hck', PV.now w' s' ⟨D, rfl, hD'⟩⟩
      · exact w'.elim
/-- the parts of a comprehension, in every block of it -/
structure LParts (X : Cx) (scope : Scope) (tg : Expr) (ifs : List Expr) (elt : Expr) (gt : TG) (tt : TT) (te : TE) : Prop where
  g : ∀ (s : Shared) (H : Hp) (C : Addr) (cl : List (Str × Addr)) (fp : List Addr), PG (X.blk s H scope (compEnvC scope cl C X.env) fp) tg gt
  t : ∀ (s : Shared) (H : Hp) (C : Addr) (cl : List (Str × Addr)) (fp : List Addr), PTs (X.blk s H scope (compEnvC scope cl C X.env) fp) ifs tt
  e : ∀ (s : Shared) (H : Hp) (C : Addr) (cl : List (Str × Addr)) (fp : List Addr), PE (X.blk s H scope (compEnvC scope cl C X.env) fp) elt te
theorem pd_lc (hc : X.calm = true) (hN : X.N.Nodup) (hi : PI X tg iter (semI w EX lv di)) (ok : BlkOk X.N X.env.scope scope own) (hv : ∀ i ∈ t.slots, i ∈ own.map (·.2))
    (hp : LParts X scope tg ifs elt (semG w t) (semT w noE lv tc) (semE w noE lv de)) (hs : ∀ x, foldedSetIterable iter X.env x = pure x) :
    PE X (.ListComp elt [⟨tg, iter, ifs, 0⟩] scope pos) (semE w EX lv (dLc di t tc de (own.map (·.2)))) := PE.imp (pe_lc hc hN hi ok hp.g hp.t hp.e hs) fun _ _ _ h => lc_read hv h
/-! ### all and any of a generator expression -/
open Classical in
/-- bb: the truth at which one stops -/
noncomputable def abGo (bb : Bool) (chk : Sto → Prop) (t : Tg) (cond : Env → Sto → R Bool) (elt : Env → Sto → R D) (ρ : Env) : List D → Sto → R D
  | [], S => if chk S then .ok (.bl (!bb)) S else .no
  | x :: xs, S => if chk S then (match tgD t x ρ with
    | some ρ1 => (quiet (cond ρ1 S)).bind fun b S1 => if b = true then (quiet (elt ρ1 S1)).bind fun y S2 => match y with
        | .bl c => if c = bb then .ok (.bl bb) S2 else abGo bb chk t cond elt ρ xs S2
        | _ => .no
      else abGo bb chk t cond elt ρ xs S1
    | none => .no) else .no
noncomputable def dAb (bb : Bool) (di : DenI) (t : Tg) (cond : DenT) (elt : Den) (vs : List Nat) : Den := fun lv ρ S => (di lv ρ S).bind fun src S1 =>
  abGo bb src.chk t (fun ρ S => cond lv.dn ρ S) (fun ρ S => elt lv.dn ρ S) (wipeE ρ vs) src.items S1
theorem wipe_twice {vs : List Nat} : wipe (wipe σ vs) vs = wipe σ vs := by
  have : ∀ us : List Nat, (∀ i ∈ us, i ∈ vs) → wipe (wipe σ us) vs = wipe σ vs := fun us => by
    induction us with
    | nil => intro _; rfl
    | cons u us ih =>
      intro hu
      show wipe ((wipe σ us).set u none) _ = _
      rw [wipe_set (hu u List.mem_cons_self)]
      exact ih fun i hi => hu i (List.mem_cons_of_mem _ hi)
  exact this _ fun _ h => h
/-- a table grows: nothing that is told of changes -/
theorem tabbed_le {P : Addr} {H2 : Hp} (h : Gx.Tabbed P H H2) (hP : Gx.TabG H P) : Le ι H ι H2 := by
  obtain ⟨ps, h1, _⟩ := hP
  exact ⟨fun _ _ z => z, fun a vs z => by rw [h.2 a (fun q => by rw [q, h1] at z; cases z)]; exact z, fun a o u z => by rw [h.2 a (fun q => by rw [q, h1] at z; cases z)]; exact z⟩
theorem tabbed_rep {K : PySem.W.Frag} {tabs : List Tb} {P : Addr} {H2 : Hp} (hs : SRep K tabs ι S H) (h : Gx.Tabbed P H H2) (hP : Gx.TabG H P) (hm : (P, none) ∈ tabs) : SRep K tabs ι S H2 := by
  refine ⟨hs.len, hs.nd, fun i o a e1 e2 => ?_, fun t ht => ?_, hs.tu⟩
  · refine (hs.obj i o a e1 e2).stay (tabbed_le h hP) fun m => h.2 a fun q => ?_
    obtain ⟨u, hu, _, _, n3⟩ := (hs.obj i o a e1 e2).tracked m
    obtain ⟨ps, h1, _⟩ := hP
    rw [q, h1] at hu
    exact n3 ps (Option.some.inj hu).symm
  · by_cases q : t.1 = P
    · rw [hs.tu t ht _ hm q]; exact h.1
    · exact (hs.tab t ht).up (fun b ps e eb => by rw [h.2 b (eb ▸ q)]; exact e) (tabbed_le (ι := ι) h hP).frz
theorem ab_read {bb : Bool} {P : Addr} {QE QO : Hp → Prop} {Q : VK} (hP : (P, none) ∈ w.tabs) (hv : ∀ i ∈ t.slots, i ∈ own.map (·.2)) (hE : ∀ H, Q (.bl (!bb)) H → QE H) (hO : ∀ H, Q (.bl bb) H → QO H)
    (h : semE w EX lv (dAb bb di t tc de (own.map (·.2))) σ H Q) :
    semI w EX lv di σ H fun J H1 => Gx.TabG H1 P ∧ ∀ H2, Gx.Tabbed P H1 H2 → Gx.TurnB J (semG w t) (semT w noE lv.dn tc) (semE w noE lv.dn de) (own.map (·.2)) σ bb QE QO H2 := by
  obtain ⟨ρ, S, ι, he, hs, hw⟩ := h
  refine ⟨ρ, S, ι, he, hs, ?_⟩
  unfold dAb at hw
  cases e : di lv ρ S with
  | no => rw [e] at hw; exact hw.elim
  | ex c S1 => rw [e] at hw; exact hw
  | ok src S1 =>
    rw [e] at hw
    intro H1 ι1 J l1 s1 hck hJ
    have hw : (abGo bb src.chk t (fun ρ S => tc lv.dn ρ S) (fun ρ S => de lv.dn ρ S) (wipeE ρ (own.map (·.2))) src.items S1).wp (PV w ι H Q) (PX w EX ι H σ) := hw
    have hTP : Gx.TabG H1 P := s1.tab _ hP
    refine ⟨hTP, fun H2 hTb => ?_⟩
    have l2 := tabbed_le (ι := ι1) hTb hTP
    have s2 := tabbed_rep s1 hTb hTP hP
    refine ⟨fun i m H' => m = src.items.length - i ∧ i ≤ src.items.length ∧ ∃ S' ι', ERep w.K ι' H' ρ σ ∧ SRep w.K w.tabs ι' S' H' ∧ Le ι1 H2 ι' H' ∧
      (abGo bb src.chk t (fun ρ S => tc lv.dn ρ S) (fun ρ S => de lv.dn ρ S) (wipeE ρ (own.map (·.2))) (src.items.drop i) S').wp (PV w ι' H' Q) (PX w EX ι' H' σ),
      ⟨_, rfl, Nat.zero_le _, S1, ι1, he.mono (l1.trans l2), s2, Le.refl _ _, R.wp_mono hw (fun f S2 q => q.mono (l1.trans l2)) fun _ _ q => q.mono (l1.trans l2)⟩, ?_⟩
    rintro i m H' ⟨rfl, hi, S', ι', e', s', l', w'⟩
    have lall := l2.trans l'
    by_cases hlt : i < src.items.length
    · rw [List.drop_eq_getElem_cons hlt] at w'
      unfold abGo at w'
      split at w'
      · rename_i hck'
        split at w'
        · rename_i ρ1 et
          obtain ⟨g1, g2⟩ := it_go hJ lall s' hck' (List.getElem?_eq_getElem hlt)
          refine .inr ⟨g1, fun H2 => ∃ S2 ι2, ERep w.K ι2 H2 ρ σ ∧ SRep w.K w.tabs ι2 S2 H2 ∧ Le ι' H' ι2 H2 ∧ (abGo bb src.chk t (fun ρ S => tc lv.dn ρ S) (fun ρ S => de lv.dn ρ S) (wipeE ρ (own.map (·.2))) (src.items.drop (i + 1)) S2).wp (PV w ι2 H2 Q) (PX w EX ι2 H2 σ), fun H2 h2 => ?_, fun x H2 y => ?_⟩
          · obtain ⟨S2, ι2, q1, q2, q3, q4⟩ := h2
            exact ⟨_, by omega, rfl, hlt, S2, ι2, q1, q2, l'.trans q3, q4⟩
          · obtain ⟨lX, sX, rx⟩ := g2 x H2 y
            have e' := e'.mono lX
            have s' := sX
            have w' := R.wp_mono w' (fun _ _ q => q.mono lX) fun _ _ q => q.mono lX
            refine ⟨_, ι', _, ρ1, e'.wiped _, rx, et, fun σ2 e2 k2 => ⟨by rw [k2 _ hv, wipe_twice], ?_⟩⟩
            refine ⟨ρ1, S', ι', e2, s', R.wp_mono (quiet_bind (W' := PX w noE ι' H2 σ2) w') (fun b S2 hb => ?_) fun _ _ q => q⟩
            intro H3 ι3 l3 s3
            cases b with
            | false => exact ⟨S2, ι3, e'.mono l3, s3, lX.trans l3, R.wp_mono hb (fun _ _ q => q.mono l3) fun _ _ q => q.mono l3⟩
            | true =>
              refine ⟨ρ1, S2, ι3, e2.mono l3, s3, R.wp_mono (quiet_bind (W' := PX w noE ι3 H3 σ2) hb) (fun yd S4 hy => ?_) fun _ _ q => q⟩
              intro vy H4 ι4 l4 s4 ry
              have l34 := l3.trans l4
              cases yd <;> first | exact False.elim hy | skip
              rename_i c
              cases ry
              dsimp only at hy
              refine ⟨c, rfl, fun hcb => ?_, fun hcb => ?_⟩
              · rw [if_pos hcb] at hy
                exact hO H4 (PV.now (PV.mono l34 hy) s4 rfl)
              · rw [if_neg (by rw [hcb]; cases bb <;> decide)] at hy
                exact ⟨S4, ι4, e'.mono l34, s4, lX.trans l34, R.wp_mono hy (fun _ _ q => q.mono l34) fun _ _ q => q.mono l34⟩
        · exact w'.elim
      · exact w'.elim
    · have ei : i = src.items.length := by omega
      subst ei
      rw [List.drop_length] at w'
      unfold abGo at w'
      split at w'
      · rename_i hck'
        exact .inl ⟨it_stop hJ lall s' hck', hE H' (PV.now w' s' rfl)⟩
      · exact w'.elim
theorem pd_all {c P : Addr} {gpos : Pos} {j : Nat} (hP : (P, none) ∈ w.tabs) (hv : ∀ i ∈ t.slots, i ∈ own.map (·.2)) (hr : RoomG (j + 1) X.A) (hgl : Gl X "all") (hm : X.mg "all" = none) (hN : X.N.Nodup) (TB : LamX.TabB X.base X.mg c P) (hcode : X.env.code = .ref c) (G : Gx.GScp X.N X.env.scope scope own)
    (hi : PI X tg iter (semI w EX lv di)) (hp : Gx.GParts X j scope tg ifs elt (semG w t) (semT w noE lv.dn tc) (semE w noE lv.dn de)) (hs : ∀ v, genFold iter X.env v = pure v) :
    PE X (.Call (.Name "all" p) [.GeneratorExp elt [⟨tg, iter, ifs, 0⟩] scope gpos] [] pos) (semE w EX lv (dAb false di t tc de (own.map (·.2)))) :=
  PE.imp (Gx.pe_allG hr hgl hm hN TB hcode G hi hp hs) fun _ _ _ h => ab_read hP hv (fun _ q => q) (fun _ q => q) h
end
end Dv

namespace Dv
open PySem PySem.Spec PyProof.Rows L2

/-! ### sorting -/
section
variable {α β : Type}
def ins (lt : α → α → Bool) (x : α) : List α → List α
  | [] => [x]
  | y :: ys => if lt y x = true then y :: ins lt x ys else x :: y :: ys
def isort (lt : α → α → Bool) : List α → List α
  | [] => []
  | x :: xs => ins lt x (isort lt xs)
theorem ins_perm {lt : α → α → Bool} {x : α} : ∀ l : List α, (ins lt x l).Perm (x :: l)
  | [] => List.Perm.refl _
  | y :: ys => by
    unfold ins
    split
    · exact ((ins_perm ys).cons y).trans (List.Perm.swap x y ys)
    · exact List.Perm.refl _
theorem isort_perm {lt : α → α → Bool} : ∀ l : List α, (isort lt l).Perm l
  | [] => List.Perm.refl _
  | x :: xs => (ins_perm _).trans ((isort_perm xs).cons x)
theorem ins_srtd {lt : α → α → Bool} (O : SrtO.Swo lt) {x : α} : ∀ {l : List α}, SrtO.Srtd lt l → SrtO.Srtd lt (ins lt x l)
  | [], _ => SrtO.srtd_one x
  | y :: ys, h => by
    unfold ins
    have h1 := SrtO.srtd_head h
    have h2 : SrtO.Srtd lt ys := (List.pairwise_cons.mp h).2
    split
    · rename_i hl
      refine List.pairwise_cons.mpr ⟨fun z hz => ?_, ins_srtd O h2⟩
      rcases List.mem_cons.mp ((ins_perm ys).mem_iff.mp hz) with e | e
      · rw [e]; exact O.asym y x hl
      · exact h1 z e
    · rename_i hl
      refine List.pairwise_cons.mpr ⟨fun z hz => ?_, h⟩
      have hl : lt y x = false := by
        cases q : lt y x with
        | true => exact absurd q hl
        | false => rfl
      rcases List.mem_cons.mp hz with e | e
      · rw [e]; exact hl
      · exact O.tr x y z hl (h1 z e)
theorem isort_srtd {lt : α → α → Bool} (O : SrtO.Swo lt) : ∀ l : List α, SrtO.Srtd lt (isort lt l)
  | [] => List.Pairwise.nil
  | _ :: xs => ins_srtd O (isort_srtd O xs)
theorem ins_stb {lt : α → α → Bool} (O : SrtO.Swo lt) {x : α} : ∀ l : List α, SrtO.Stb lt (ins lt x l) (x :: l)
  | [] => SrtO.Stb.refl _
  | y :: ys => by
    unfold ins
    split
    · rename_i hl
      have h1 : SrtO.Stb lt ([y] ++ ins lt x ys) ([y] ++ (x :: ys)) := (SrtO.Stb.refl [y]).app (ins_stb O ys)
      have h2 : SrtO.Stb lt (([y] ++ [x]) ++ ys) (([x] ++ [y]) ++ ys) := (SrtO.Stb.swap O (A := [y]) (B := [x]) fun a ha b hb => by
        rw [List.mem_singleton.mp ha, List.mem_singleton.mp hb]; exact hl).app (SrtO.Stb.refl ys)
      exact h1.trans h2
    · exact SrtO.Stb.refl _
theorem isort_stb {lt : α → α → Bool} (O : SrtO.Swo lt) : ∀ l : List α, SrtO.Stb lt (isort lt l) l
  | [] => SrtO.Stb.refl _
  | x :: xs => (ins_stb O _).trans ((SrtO.Stb.refl [x]).app (isort_stb O xs))
theorem Stb.symm {lt : α → α → Bool} {l m : List α} (h : SrtO.Stb lt l m) : SrtO.Stb lt m l := ⟨h.perm.symm, fun x => (h.cls x).symm⟩
/-- the one that is sorted and stable -/
theorem isort_uniq {lt : α → α → Bool} (O : SrtO.Swo lt) {l m : List α} (h1 : SrtO.Srtd lt l) (h2 : SrtO.Stb lt l m) : l = isort lt m :=
  SrtO.stb_uniq O h1 (isort_srtd O m) (h2.trans (Stb.symm (isort_stb O m)))
theorem ins_map {lt : α → α → Bool} {lt' : β → β → Bool} {f : α → β} {x : α} : ∀ {l : List α}, (∀ y ∈ l, lt y x = lt' (f y) (f x)) → (ins lt x l).map f = ins lt' (f x) (l.map f)
  | [], _ => rfl
  | y :: ys, h => by
    have e := h y List.mem_cons_self
    show (if lt y x = true then y :: ins lt x ys else x :: y :: ys).map f = if lt' (f y) (f x) = true then f y :: ins lt' (f x) (ys.map f) else f x :: f y :: ys.map f
    rw [← e]
    cases q : lt y x with
    | true =>
      rw [if_pos rfl, if_pos rfl, List.map_cons, ins_map fun z hz => h z (List.mem_cons_of_mem _ hz)]
    | false =>
      rw [if_neg (by decide), if_neg (by decide), List.map_cons, List.map_cons]
theorem isort_map {lt : α → α → Bool} {lt' : β → β → Bool} {f : α → β} : ∀ {l : List α}, (∀ x ∈ l, ∀ y ∈ l, lt y x = lt' (f y) (f x)) → (isort lt l).map f = isort lt' (l.map f)
  | [], _ => rfl
  | x :: xs, h => by
    unfold isort
    rw [ins_map fun y hy => h x List.mem_cons_self y (List.mem_cons_of_mem _ ((isort_perm xs).mem_iff.mp hy)), isort_map fun a ha b hb => h a (List.mem_cons_of_mem _ ha) b (List.mem_cons_of_mem _ hb)]
    rfl
end
def keyD : D → Int × Int
  | .tup [.int a, .int b] => (a, b)
  | _ => (0, 0)
def isPr : D → Bool
  | .tup [.int _, .int _] => true
  | _ => false
def ltK (x y : D) : Bool := SrtO.lexB (keyD x) (keyD y)
def isRf : D → Bool
  | .ref _ => true
  | _ => false
def sortedD : OpN
  | [d], S => match itemsD d S with
    | some xs => if xs.all isPr = true ∧ xs.length ≤ mx ∧ isRf d = true then .ok (.ref S.length) (S ++ [.lst true (isort ltK xs)]) else .no
    | none => .no
  | _, _ => .no
open Classical in
noncomputable def kvOf (h : Heap) (u : Value) : Int × Int := if q : ∃ p : Int × Int, Srt.IsPair h u p.1 p.2 then Classical.choose q else (0, 0)
theorem kvOf_eq {h : Heap} {u : Value} {x y : Int} (q : Srt.IsPair h u x y) : kvOf h u = (x, y) := by
  have ex : ∃ p : Int × Int, Srt.IsPair h u p.1 p.2 := ⟨(x, y), q⟩
  unfold kvOf
  rw [dif_pos ex]
  have z := Classical.choose_spec ex
  generalize Classical.choose ex = p at z
  obtain ⟨a, o, t, u', n, e1, e2, e3, e4⟩ := z
  obtain ⟨a', o', t', u2, n', f1, f2, f3, f4⟩ := q
  rw [e1] at f1
  cases f1
  rw [e2] at f2
  cases f2
  rw [e4] at f4
  obtain ⟨p1, p2⟩ := p
  simp at f4
  obtain ⟨⟨⟨g1, _⟩, g2, _⟩, _⟩ := f4
  simp [g1, g2]
section
variable {X : Cx} {tabs : List Tb}
/-- three lists side by side -/
theorem trip {K : PySem.W.Frag} {ι : List Addr} {H : Hp} : ∀ {ds : List D} {vs : List V} {us : List Value}, RepL K ι H ds vs → Vals vs us → ∃ zs : List (D × V × Value), zs.map (·.1) = ds ∧ zs.map (·.2.1) = vs ∧ zs.map (·.2.2) = us ∧ ∀ z ∈ zs, Rep K ι H z.1 z.2.1 ∧ RelV z.2.1 z.2.2
  | [], vs, us, r, h => by
    have r : vs = [] := r
    subst r
    cases h
    exact ⟨[], rfl, rfl, rfl, fun z hz => by cases hz⟩
  | d :: ds, _, _, r, h => by
    obtain ⟨v, vr, rfl, r1, r2⟩ := r
    cases h with
    | cons q1 q2 =>
      rename_i u us
      obtain ⟨zs, e1, e2, e3, hz⟩ := trip r2 q2
      refine ⟨(d, v, u) :: zs, by rw [List.map_cons, e1], by rw [List.map_cons, e2], by rw [List.map_cons, e3], fun z hzm => ?_⟩
      rcases List.mem_cons.mp hzm with e | e
      · rw [e]; exact ⟨r1, q1⟩
      · exact hz z e
theorem untrip {K : PySem.W.Frag} {ι : List Addr} {H : Hp} : ∀ {zs : List (D × V × Value)}, (∀ z ∈ zs, Rep K ι H z.1 z.2.1 ∧ RelV z.2.1 z.2.2) → RepL K ι H (zs.map (·.1)) (zs.map (·.2.1)) ∧ Vals (zs.map (·.2.1)) (zs.map (·.2.2))
  | [], _ => ⟨rfl, .nil⟩
  | z :: zs, h => by
    obtain ⟨h1, h2⟩ := h z List.mem_cons_self
    obtain ⟨h3, h4⟩ := untrip fun y hy => h y (List.mem_cons_of_mem _ hy)
    exact ⟨⟨_, _, rfl, h1, h3⟩, .cons h2 h4⟩
theorem pr_pair {pins : List (Addr × Obj)} {σ : L2.St} {H : Hp} {s : Shared} {ι : List Addr} {d : D} {v : V} {u : Value} (I : L2.Inv X pins σ H s) (hp : isPr d = true) (r : Rep X.K ι H d v) (q : RelV v u) : Srt.IsPair s.heap u (keyD d).1 (keyD d).2 := by
  match d, hp with
  | .tup [.int a, .int b], _ =>
    obtain ⟨p, vs, rfl, hq, l⟩ := r
    cases q
    obtain ⟨v1, v2, rfl, q1, q2⟩ := repl2 l
    cases q1; cases q2
    obtain ⟨its, rv, ⟨o, ho, hc, n, hd⟩, _⟩ := I.tuple hq.t
    obtain ⟨u1, u2, rfl, ri, rj⟩ := vals2 rv
    obtain ⟨t1, rfl⟩ := ri
    obtain ⟨t2, rfl⟩ := rj
    exact ⟨p, o, t1, t2, n, rfl, ho, hc, hd⟩
theorem crd_sorted : CallR X (.builtin "sorted") (rCl ⟨X.K, tabs⟩ sortedD) := by
  rintro pins s σ H xs us Q I rx ⟨S, ι, ds, hs, r, hw⟩
  unfold sortedD at hw
  split at hw
  · rename_i d
    obtain ⟨v, rfl, q⟩ := repl1 r
    split at hw
    · rename_i ys e
      split at hw
      · rename_i hc
        obtain ⟨hc1, hc2, hc3⟩ := hc
        obtain ⟨a, vs, rfl, l, ho⟩ := itemsD_v hs e q
        rcases ho with ⟨zs, rfl, _⟩ | ⟨i, b, rfl, e0, hq⟩
        · cases hc3
        obtain ⟨its, rv, hl, hz⟩ := I.list hq
        obtain ⟨u, rfl, ru⟩ := vals1 rx
        cases ru
        obtain ⟨zs, z1, z2, z3, hzs⟩ := trip l rv
        have key : ∀ z ∈ zs, kvOf s.heap z.2.2 = keyD z.1 := fun z hz => by
          have hp : isPr z.1 = true := List.all_eq_true.mp hc1 z.1 (by rw [← z1]; exact List.mem_map.mpr ⟨z, hz, rfl⟩)
          exact kvOf_eq (pr_pair I hp (hzs z hz).1 (hzs z hz).2)
        refine SrtO.sorted_pairsO (k := kvOf s.heap) hl.isList (by rw [← rv.length]; exact hz) (fun x hx => ?_) fun h' p out h1 h2 kp hd hn => ?_
        · rw [← z3] at hx
          obtain ⟨z, hz', rfl⟩ := List.mem_map.mp hx
          have hp : isPr z.1 = true := List.all_eq_true.mp hc1 z.1 (by rw [← z1]; exact List.mem_map.mpr ⟨z, hz', rfl⟩)
          rw [key z hz']
          exact pr_pair I hp (hzs z hz').1 (hzs z hz').2
        · have O1 := SrtO.swo_lex (kvOf s.heap)
          have eo := isort_uniq O1 h1 h2
          have m1 : (isort (fun z y : D × V × Value => ltK z.1 y.1) zs).map (·.1) = isort ltK ys := by rw [← z1]; exact isort_map fun x hx y hy => rfl
          have m2 : (isort (fun z y : D × V × Value => ltK z.1 y.1) zs).map (·.2.2) = out := by
            rw [eo, ← z3]
            exact isort_map fun x hx y hy => by
              show SrtO.lexB _ _ = SrtO.lexB _ _
              rw [key x hx, key y hy]
          obtain ⟨w1, w2⟩ := untrip (zs := isort (fun z y : D × V × Value => ltK z.1 y.1) zs) (K := X.K) (ι := ι) (H := H) fun z hz => hzs z ((isort_perm zs).mem_iff.mp hz)
          rw [m1] at w1
          rw [m2] at w2
          obtain ⟨n, hn⟩ := hn
          have hpn : H p = none := I.hok.fresh hd
          obtain ⟨s2, le2, rr2⟩ := new_lst (w := ⟨X.K, tabs⟩) hs hpn w1
          refine ⟨.ref p, _, I.laid (o := .lst ((isort (fun z y : D × V × Value => ltK z.1 y.1) zs).map (·.2.1))) (t' := s.toks) kp hd ⟨?_, out, n, w2, hn⟩, rfl, hw _ _ _ le2 s2 rr2⟩
          rw [← w1.len, (isort_perm ys).length_eq]
          exact mx_le hc2
      · exact hw.elim
    · exact hw.elim
  · exact hw.elim
end
end Dv

namespace Dv
open PySem PySem.Spec PyProof.Rows L2

/-! ### t[::-1] -/
section
variable {prog : Program} {w : World} {A : Around} {E : Value → Shared → Prop} {s : Shared}
theorem adjust_rev (n : Nat) : Builtin.Slice.sliceAdjust none none (-1) (n : Int) = ((n : Int) - 1, -1) := by
  unfold Builtin.Slice.sliceAdjust
  simp
theorem places_rev (n : Nat) : Builtin.Slice.slicePlaces ((n : Int) - 1) (-1) (-1) = n := by
  unfold Builtin.Slice.slicePlaces
  simp
  try omega
theorem sliceApplied_rev {sl : Addr} {t : Tok} {n : Nat} {Q : Int × Int × Nat → Shared → Prop} (hs : s.heap.IsSliceOf sl .none .none (.int (-1) t))
    (h : Q ((n : Int) - 1, -1, n) s) : wpAny (model prog w) A (Builtin.Slice.sliceApplied (.ref sl) (pure (n : Int))) Q E s := by
  obtain ⟨os, hos, hcs, hds⟩ := id hs
  unfold Builtin.Slice.sliceApplied Builtin.Slice.sliceFields
  refine wpAny_bind (wpAny_bind (wpAny_field hos hds (x := .none) rfl (wpAny_bind (wpAny_field hos hds (x := .none) rfl (wpAny_bind (wpAny_field hos hds (x := .int (-1) t) rfl (wpAny_pure ?_)))))))
  refine wpAny_bind (HT.slicePart_ (.int (-1) t) ?_)
  show wpAny _ _ (if ((-1 : Int) == 0) = true then _ else _) _ _ s
  rw [if_neg (by decide)]
  refine wpAny_bind (HT.slicePart_ .none (wpAny_bind (HT.slicePart_ .none (wpAny_bind (wpAny_pure ?_)))))
  show wpAny _ _ (match Builtin.Slice.sliceAdjust none none (-1) (n : Int) with | (lo, hi) => pure (lo, (-1 : Int), Builtin.Slice.slicePlaces lo hi (-1))) _ _ s
  rw [adjust_rev n]
  show wpAny _ _ (pure ((n : Int) - 1, (-1 : Int), Builtin.Slice.slicePlaces ((n : Int) - 1) (-1) (-1))) _ _ s
  rw [places_rev]
  exact wpAny_pure h
theorem pick_rev (xs : Array Value) : ((List.range xs.size).filterMap fun (m : Nat) => xs[((xs.size : Int) - 1 + (m : Int) * (-1)).toNat]?).toArray = xs.toList.reverse.toArray := by
  have e : (List.range xs.size).filterMap (fun (m : Nat) => xs[((xs.size : Int) - 1 + (m : Int) * (-1)).toNat]?) = ((List.range xs.size).map fun k => xs.size - 1 - k).filterMap (xs[·]?) := by
    rw [List.filterMap_map]
    have cg : ∀ l : List Nat, (∀ m ∈ l, m < xs.size) → l.filterMap (fun (m : Nat) => xs[((xs.size : Int) - 1 + (m : Int) * (-1)).toNat]?) = l.filterMap ((fun x => xs[x]?) ∘ fun k => xs.size - 1 - k) := fun l => by
      induction l with
      | nil => intro _; rfl
      | cons a r ih =>
        intro h
        have ha := h a List.mem_cons_self
        have e2 : ((xs.size : Int) - 1 + (a : Int) * (-1)).toNat = xs.size - 1 - a := by omega
        have e3 : (fun (m : Nat) => xs[((xs.size : Int) - 1 + (m : Int) * (-1)).toNat]?) a = ((fun x => xs[x]?) ∘ fun k => xs.size - 1 - k) a := by
          show xs[((xs.size : Int) - 1 + (a : Int) * (-1)).toNat]? = xs[xs.size - 1 - a]?
          rw [e2]
        rw [List.filterMap_cons, List.filterMap_cons, ih fun m hm => h m (List.mem_cons_of_mem _ hm)]
        have e4 : xs[((xs.size : Int) - 1 + (a : Int) * (-1)).toNat]? = ((fun x => xs[x]?) ∘ fun k => xs.size - 1 - k) a := e3
        rw [e4]
    exact cg _ fun m hm => List.mem_range.mp hm
  rw [e, PySem.W.krv_range, List.filterMap_reverse, PySem.W.krv_all]
theorem getItem_tuple_rev {t sl : Addr} {items : Array Value} {tk : Tok} {Q : Value → Shared → Prop} (ht : IsTup s.heap t items) (hs : s.heap.IsSliceOf sl .none .none (.int (-1) tk))
    (h : Q (.ref s.heap.objs.size) { s with heap := s.heap.push { cls := .type "tuple", data := .seq items.toList.reverse.toArray } })
    (hsz : items.size ≤ sizeLine) : wpAny (model prog w) A (getItem (.ref t) (.ref sl)) Q E s := by
  have htake : sizeOk (.seq items.toList.reverse.toArray) := by
    show items.toList.reverse.toArray.size ≤ sizeLine
    rw [List.size_toArray, List.length_reverse, Array.length_toList]
    exact hsz
  obtain ⟨os, hos, hcs, hds⟩ := id hs
  have hTs : s.TypeIs (.ref sl) "slice" := ⟨os, hos, hcs⟩
  unfold getItem
  try with_reducible refine wpAny_holding ?_
  first | refine wpAny_bind (wpAny_pure ?_) | skip
  refine wpAny_bind (wpAny_sequenceKey ht.typeIs (by decide) ?_)
  refine wpAny_bind (wpAny_callSpecial?_slot (name := Str.ofString "__getitem__") ht.typeIs PyProof.Rows.slot_tuple_getitem
    (wpAny_call_entry PyProof.Rows.slot_tuple_getitem ht.typeIs entry_tuple_getitem ?_ (args_tuple_getitem _ _)))
  show wpAny _ _ (Builtin.Tuple.tupleItemsOf (.ref t) >>= _) _ _ s
  refine wpAny_bind (tupleItemsOf_ ht ?_)
  refine wpAny_bind (wpAny_typeOf hTs ?_)
  rw [if_pos (by decide)]
  refine wpAny_bind (sliceApplied_rev hs ?_)
  have hno : ¬ ((((items.size : Int) - 1) == 0 && (-1 : Int) == 1 && items.size == items.size) = true) := by
    intro q
    rw [Bool.and_eq_true, Bool.and_eq_true] at q
    exact absurd (eq_of_beq q.1.2) (by decide)
  show wpAny _ _ (if (((items.size : Int) - 1) == 0 && (-1 : Int) == 1 && items.size == items.size) = true then _ else _) _ _ s
  rw [if_neg hno, pick_rev]
  first
    | exact wpAny_bind (m := Builtin.Tuple.tupleExact _) (wpAny_newObj_type (wpAny_pure ⟨_, rfl, wpAny_pure h⟩) htake)
    | exact wpAny_bind (m := Builtin.Tuple.tupleExact _) (wpAny_newObj_type (wpAny_bind (wpAny_pure (wpAny_pure ⟨_, rfl, wpAny_pure h⟩))) htake)
    | exact wpAny_bind (wpAny_bind (m := Builtin.Tuple.tupleExact _) (wpAny_newObj_type (wpAny_pure (wpAny_pure ⟨_, rfl, wpAny_pure h⟩)) htake))
    | exact wpAny_bind (wpAny_bind (m := Builtin.Tuple.tupleExact _) (wpAny_newObj_type (wpAny_pure ⟨_, rfl, wpAny_pure h⟩) htake))
end
section
variable {X : Cx} {w : Wn} {EX : EXT} {lv : Lv} {σ : L2.St} {H : Hp} {ρ : Env} {S : Sto} {ι : List Addr} {e : Expr} {de : Den}
def tRevA (K : PySem.W.Frag) (te : TE) : TE := fun σ H Q => te σ H fun x H1 => ∃ a xs, x = .ref a ∧ ((SqL K H1 a xs ∧ ∀ p, H1 p = none → Q (.ref p) (upd H1 p (.lst xs.reverse))) ∨ (SqT K H1 a xs ∧ Fz.At H1 Q xs.reverse))
theorem pe_revA {te : TE} {k : Nat} {p1 p2 p3 pos : Pos} (he : PE X e te) : PE X (.Subscript e (.Slice none none (some (.UnaryOp .USub (.Constant (.int 1) k p1) p2)) p3) pos) (tRevA X.K te) := by
  refine ⟨fun pins s σ H Q I h => ?_⟩
  refine Subscript_ (thn (he.run pins s σ H _ I h) fun v s1 ⟨x, H1, I1, r1, q1⟩ => ?_)
  obtain ⟨a, xs, ex, q⟩ := q1
  subst ex
  cases r1
  have hst : PO X (some (.UnaryOp .USub (.Constant (.int 1) k p1) p2)) (tPart (tUn (rU fun i => .int (-i)) (tC (.int 1)))) := po_some (pe_un un_neg pe_int)
  refine wpAny_Slice (thn (po_none.run pins s1 σ H1 (fun o H2 => o = none ∧ H2 = H1) I1 ⟨rfl, rfl⟩) fun vl s2 ⟨l, H2, I2, pl, el, e2⟩ => ?_)
  subst el e2
  refine thn (po_none.run pins s2 σ H2 (fun o H3 => o = none ∧ H3 = H2) I2 ⟨rfl, rfl⟩) fun vu s3 ⟨u, H3, I3, pu, eu, e3⟩ => ?_
  subst eu e3
  refine thn (hst.run pins s3 σ H3 (fun o H4 => o = some (-1) ∧ H4 = H3) I3 ⟨1, rfl, -1, rfl, rfl, rfl⟩) fun vs s4 ⟨o, H4, I4, ps, eo, e4⟩ => ?_
  subst eo e4
  have I5 : Inv X pins σ H4 { s4 with heap := s4.heap.push { cls := .type "slice", data := .fields #[vl, vu, vs] } } := I4.kept (t' := s4.toks) fun b ob q => Heap.get?_push_of_some _ q
  show wpAny (model X.prog X.w) X.A (subscriptTail e (.Slice none none (some (.UnaryOp .USub (.Constant (.int 1) k p1) p2)) p3) (.ref a) (.ref s4.heap.objs.size)) (EP X pins σ Q) X.xe { s4 with heap := s4.heap.push { cls := .type "slice", data := .fields #[vl, vu, vs] } }
  rcases q with ⟨hx, q⟩ | ⟨hx, q⟩
  · obtain ⟨its, r, ht, hz⟩ := I5.list hx
    have hlen := r.length
    refine tail_any (ops := [.ref a, .ref s4.heap.objs.size]) ht.isList.typeIs (PySem.slot_list_getitem.lookup) ?_ (by with_unfolding_all rfl)
    refine wpAny_getItem_list_slice ht.isList (Heap.IsSliceOf.new _ vl vu vs) pl pu ps (by decide) ?_ (by rw [List.size_toArray]; omega)
    rw [PySem.W.krv_pick]
    refine ⟨.ref _, _, I5.laid (t' := s4.toks) (o := .lst xs.reverse) (fun b ob q => Heap.get?_push_of_some _ q) (Nat.le_refl _) ?_, rfl, q _ (I5.hok.fresh (Nat.le_refl _))⟩
    exact ⟨by rw [List.length_reverse]; exact hz, _, 0, r.reverse, Heap.get?_push_size _ rfl⟩
  · obtain ⟨its, r, ht, hz⟩ := I5.tuple hx
    have hlen := r.length
    cases pl
    cases pu
    cases ps with
    | int i tk =>
    refine tail_any (ops := [.ref a, .ref s4.heap.objs.size]) ht.typeIs (PyProof.Rows.slot_tuple_getitem.lookup) ?_ (by with_unfolding_all rfl)
    refine getItem_tuple_rev ht (Heap.IsSliceOf.new _ .none .none (.int (-1) tk)) ?_ (by rw [List.size_toArray]; omega)
    exact Fz.put I5 r.reverse (by rw [List.length_reverse]; exact hz) q
def revD : Op1 := fun d S => match itemsD d S with
  | some xs => if isRf d = true then .ok (.ref S.length) (S ++ [.lst true xs.reverse]) else .ok (.tup xs.reverse) S
  | none => .no
theorem pd_rev {tabs : List Tb} {k : Nat} {p1 p2 p3 pos : Pos} (he : PE X e (semE ⟨X.K, tabs⟩ EX lv de)) : PE X (.Subscript e (.Slice none none (some (.UnaryOp .USub (.Constant (.int 1) k p1) p2)) p3) pos) (semE ⟨X.K, tabs⟩ EX lv (dUn revD de)) := by
  refine PE.imp (pe_revA he) fun σ H Q h => ?_
  obtain ⟨ρ, S, ι, he, hs, hw⟩ := h
  refine stepE (Po := fun ι H => PV ⟨X.K, tabs⟩ ι H Q) he hs (fun l q => q.mono l) hw fun x S1 v H1 ι1 l1 s1 r1 e1 h1 => ?_
  have h1 := quiet_wp (W' := noX) h1
  unfold revD at h1
  split at h1
  · rename_i xs ex
    obtain ⟨a, vs, rfl, l, ho⟩ := itemsD_v s1 ex r1
    rcases ho with ⟨zs, rfl, hq⟩ | ⟨i, b, rfl, e0, hq⟩
    · refine ⟨a, vs, rfl, .inr ⟨hq.t, fun p _ hp => ?_⟩⟩
      exact h1 _ _ ι1 (le_upd hp) (s1.extra hp) (repT hp l.rev)
    · refine ⟨a, vs, rfl, .inl ⟨hq, fun p hp => ?_⟩⟩
      obtain ⟨s2, le2, rr2⟩ := new_lst (w := ⟨X.K, tabs⟩) s1 hp l.rev
      exact h1 _ _ _ le2 s2 rr2
  · exact h1.elim

/-! ### {} and {i: e} -/
theorem new_dk {ι : List Addr} {S : Sto} {H : Hp} {p : Addr} (hs : SRep w.K w.tabs ι S H) (hp : H p = none) :
    SRep w.K w.tabs (ι ++ [p]) (S ++ [.dk []]) (upd H p (.dK [])) ∧ Le ι H (ι ++ [p]) (upd H p (.dK [])) ∧ Rep w.K (ι ++ [p]) (upd H p (.dK [])) (.ref S.length) (.ref p) := by
  obtain ⟨h1, h2⟩ := hs.new (u := .dK []) (o := .dk []) hp rfl ⟨[], upd_same, rfl, rfl⟩
  exact ⟨h1, h2, p, rfl, by rw [hs.len, List.getElem?_append_right (Nat.le_refl _)]; simp⟩
def dDk0 : Den := fun _ _ S => .ok (.ref S.length) (S ++ [.dk []])
theorem pd_dk0 {pos : Pos} : PE X (.Dict [] [] pos) (semE w EX lv dDk0) := by
  refine PE.imp pe_dnewK fun σ H Q h => ?_
  obtain ⟨ρ, S, ι, he, hs, hw⟩ := h
  intro p hp
  obtain ⟨s2, l2, r2⟩ := new_dk hs hp
  exact hw _ _ _ l2 s2 r2
/-- one pair, the key a constant -/
def dDk1 (k : Key) (e : Den) : Den := fun lv ρ S => (e lv ρ (S ++ [.dk []])).bind fun y S1 => match S1[S.length]? with
  | some (.dk []) => .ok (.ref S.length) (S1.set S.length (.dk [(k, y)]))
  | _ => .no
end
end Dv

namespace Dv
open PySem PySem.Spec PyProof.Rows L2 Gr

/-- an own def: its name, where it stands, its data, its parameters -/
structure FnE where
  x : Str
  f : Addr
  fd : FuncData
  ps : List Str
def dCallF (i n : Nat) (a : DenA) : Den := fun lv ρ S => (a lv ρ S).bind fun xs S1 => if xs.length = n then lv 0 i xs S1 else .no
/-- an error of the class with this number -/
def XW (cl : Option (Nat → Value)) (E : XK) (c : Nat) (H : Hp) : Prop := match cl with
  | none => False
  | some g => E (g c) none H
/-- what a def promises, by its meaning -/
def spD (w : Wn) (cl : Option (Nat → Value)) (n : Nat) (fn : List D → Sto → R D) : Sp := fun vs H Q E => ∃ S ι ds, vs.length = n ∧ SRep w.K w.tabs ι S H ∧ RepL w.K ι H ds vs ∧
  (fn ds S).wp (PV w ι H Q) (fun c S' => ∀ H' ι', Le ι H ι' H' → SRep w.K w.tabs ι' S' H' → XW cl E c H')
structure LvOk (P : Program) (w : World) (K : PySem.W.Frag) (mg : Str → Option Value) (base : Heap) (CX : CXT) (wn : Wn) (cl : Option (Nat → Value)) (fs : List FnE) (k : Nat) (lv : Lv) : Prop where
  ok : ∀ j, j ≤ k → ∀ i e, fs[i]? = some e → Gr.FnG P w K mg base CX (k - j) e.f e.fd e.ps (spD wn cl e.ps.length (lv j i))
theorem LvOk.dn {P : Program} {w : World} {K : PySem.W.Frag} {mg : Str → Option Value} {base : Heap} {CX : CXT} {wn : Wn} {cl : Option (Nat → Value)} {fs : List FnE} {k : Nat} {lv : Lv} (L : LvOk P w K mg base CX wn cl fs (k + 1) lv) : LvOk P w K mg base CX wn cl fs k lv.dn :=
  ⟨fun j hj i e h => by
    have q := L.ok (j + 1) (by omega) i e h
    rw [show k + 1 - (j + 1) = k - j from by omega] at q
    exact q⟩
structure FnsOk (K : PySem.W.Frag) (mg : Str → Option Value) (fs : List FnE) : Prop where
  all : ∀ (i : Nat) (e : FnE), fs[i]? = some e → mg e.x = some (.ref e.f) ∧ PySem.W.keepIn K (.ref e.f) = true ∧ Binds K e.fd e.ps []
/-- the wish of a call's error -/
def EE (cl : Option (Nat → Value)) (EX : EXT) (σ : L2.St) : XK := fun cls d H => ∃ c g, cl = some g ∧ cls = g c ∧ d = none ∧ EX c σ H
section
variable {X : Cx} {EX : EXT} {lv : Lv} {tabs : List Tb} {CX : CXT} {cl : Option (Nat → Value)} {fs : List FnE} {k i n : Nat} {x : Str} {p pos : Pos} {a : Expr} {es : List Expr} {ra : DenA} {e : FnE}
theorem pd_callF (L : LvOk X.prog X.w X.K X.mg X.base CX ⟨X.K, tabs⟩ cl fs k lv) (T : FnsOk X.K X.mg fs) (hr : RoomG k X.A) (hp : ∀ σ, PassesAt CX X σ (EE cl EX σ)) (hq : cl = none → EX = noE) (hi : fs[i]? = some e) (hn : e.ps.length = n) (hx : e.x = x) (hg : Gl X x)
    (ha : PA X (a :: es) (semA ⟨X.K, tabs⟩ EX lv ra)) (hdb : (x == ("__debug__" : Str)) = false) (he : starEach (a :: es) X.env = (false, eval a X.env) :: starEach es X.env) (hpl : (backTo pos (starEach es X.env)).any (·.1) = false) :
    PE X (.Call (.Name x p) (a :: es) [] pos) (semE ⟨X.K, tabs⟩ EX lv (dCallF i n ra)) := by
  subst hx
  obtain ⟨t1, t2, t3⟩ := T.all i e hi
  have F := L.ok 0 (Nat.zero_le _) i e hi
  rw [Nat.sub_zero] at F
  refine PE.imp (Gr.pe_callG F hr hg t1 t2 t3 hp ha hdb he hpl) fun σ H Q h => ?_
  obtain ⟨ρ, S, ι, h0, hs, hw⟩ := h
  refine stepA (Po := fun ι H => PV ⟨X.K, tabs⟩ ι H Q) h0 hs (fun l q => q.mono l) hw fun xs S1 vs H1 ι1 l1 s1 r1 e1 h1 => ?_
  by_cases hl : xs.length = n
  · rw [if_pos hl] at h1
    refine ⟨S1, ι1, xs, by rw [← r1.len, hl, hn], s1, r1, R.wp_mono h1 (fun _ _ q => q) fun c S2 q => ?_⟩
    intro H2 ι2 l2 s2
    have z := q H2 ι2 l2 s2
    cases hc : cl with
    | none => rw [hq hc] at z; exact z.elim
    | some g => exact ⟨c, g, rfl, rfl, rfl, z⟩
  · rw [if_neg hl] at h1
    exact h1.elim
theorem pass_noE {X : Cx} {P : Program} {w : World} {cl : Option (Nat → Value)} (σ : L2.St) : PassesAt (L2.CX P w) X σ (EE cl noE σ) := fun _ _ _ _ _ _ h => by
  obtain ⟨_, _, _, _, _, _, _, _, _, _, _, _, c, _, _, _, _, f⟩ := h
  exact f.elim
end
/-! ### a def -/
def startE (n : Nat) (ds : List D) : Env := ds.map some ++ List.replicate (n - ds.length) none
def endF : R Fl → R D
  | .ok (.nx _) S1 => .ok .non S1
  | .ok (.rt d) S1 => .ok d S1
  | .ok (.xc c _) S1 => .ex c S1
  | _ => .no
def runF (body : DenS) (n : Nat) (lv : Lv) (ds : List D) (S : Sto) : R D := endF (body lv (startE n ds) S)
theorem start_rep {K : PySem.W.Frag} {ι : List Addr} {H : Hp} {N : List Str} {ds : List D} {vs : List V} (r : RepL K ι H ds vs) : ERep K ι H (startE N.length ds) (L2.start N vs) := by
  have hl := r.len
  refine ⟨by unfold startE L2.start; simp [hl], fun i d e => ?_⟩
  unfold startE at e
  unfold L2.start
  by_cases hi : i < ds.length
  · rw [List.getElem?_append_left (by simpa using hi), List.getElem?_map] at e
    cases q : ds[i]? with
    | none => rw [q] at e; cases e
    | some d' =>
      rw [q] at e
      cases e
      obtain ⟨v, h1, h2⟩ := r.get q
      exact ⟨v, by rw [List.getElem?_append_left (by rw [List.length_map, ← hl]; exact hi), List.getElem?_map, h1]; rfl, h2⟩
  · rw [List.getElem?_append_right (by simpa using Nat.le_of_not_lt hi)] at e
    have := List.getElem?_replicate (n := N.length - ds.length) (a := (none : Option D)) (i := i - (ds.map some).length)
    rw [this] at e
    split at e <;> cases e
end Dv

namespace Dv
open PySem PySem.Spec PyProof.Rows L2 Gr

/-! ### levels -/
abbrev Bodies := List (DenS × Nat)
/-- the defs' meaning with k calls allowed; the second number: so many fewer -/
def Phi (bs : Bodies) : Nat → Lv
  | 0 => fun _ _ _ _ => .no
  | k + 1 => fun j => match j with
    | 0 => fun i ds S => match k with
      | 0 => .no
      | _ + 1 => match bs[i]? with
        | some b => runF b.1 b.2 (Phi bs k) ds S
        | none => .no
    | j + 1 => Phi bs k j
theorem Phi_run {bs : Bodies} {k i : Nat} {b : DenS} {n : Nat} {ds : List D} {S : Sto} (h : bs[i]? = some (b, n)) : Phi bs (k + 2) 0 i ds S = runF b n (Phi bs (k + 1)) ds S := by
  show (match bs[i]? with | some b => runF b.1 b.2 (Phi bs (k + 1)) ds S | none => .no) = _
  rw [h]
theorem Phi_sub {bs : Bodies} : ∀ {k j : Nat}, j ≤ k → Phi bs k j = Phi bs (k - j) 0
  | _, 0, _ => by rw [Nat.sub_zero]
  | k + 1, j + 1, h => by
    show Phi bs k j = _
    rw [Phi_sub (Nat.le_of_succ_le_succ h), Nat.succ_sub_succ]
section
variable {P : Program} {w : World} {K : PySem.W.Frag} {mg : Str → Option Value} {base : Heap} {CX : CXT} {wn : Wn} {cl : Option (Nat → Value)}
theorem no_fn {k n : Nat} {f : Addr} {fd : FuncData} {ps : List Str} {g : List D → Sto → R D} (h : ∀ ds S, g ds S = .no) : Gr.FnG P w K mg base CX k f fd ps (spD wn cl n g) := by
  have no : ∀ vs H Q E, ¬ spD wn cl n g vs H Q E := fun vs H Q E hh => by
    obtain ⟨S, ι, ds, _, _, _, hw⟩ := hh
    rw [h] at hw
    exact hw
  exact ⟨fun vs H Q E h => absurd h (no vs H Q E), fun A outer s H args us vs Q E _ _ _ _ h => absurd h (no vs H Q E)⟩
theorem phi_ok {fs : List FnE} {bs : Bodies} (step : ∀ (k : Nat) (lv : Lv), LvOk P w K mg base CX wn cl fs (k + 1) lv → ∀ (i : Nat) (e : FnE) (b : DenS × Nat), fs[i]? = some e → bs[i]? = some b → Gr.FnG P w K mg base CX (k + 2) e.f e.fd e.ps (spD wn cl e.ps.length (runF b.1 b.2 lv))) :
    ∀ k, LvOk P w K mg base CX wn cl fs k (Phi bs k) := by
  have one : ∀ m, (∀ m', m' < m → ∀ (i : Nat) (e : FnE), fs[i]? = some e → Gr.FnG P w K mg base CX m' e.f e.fd e.ps (spD wn cl e.ps.length (Phi bs m' 0 i))) → ∀ (i : Nat) (e : FnE), fs[i]? = some e → Gr.FnG P w K mg base CX m e.f e.fd e.ps (spD wn cl e.ps.length (Phi bs m 0 i)) := by
    intro m ih i e he
    match m, ih with
    | 0, _ => exact no_fn fun _ _ => rfl
    | 1, _ => exact no_fn fun _ _ => rfl
    | k + 2, ih =>
      cases hb : bs[i]? with
      | none =>
        refine no_fn fun ds S => ?_
        show (match bs[i]? with | some b => runF b.1 b.2 (Phi bs (k + 1)) ds S | none => .no) = _
        rw [hb]
      | some b =>
        have L : LvOk P w K mg base CX wn cl fs (k + 1) (Phi bs (k + 1)) := ⟨fun j hj i' e' h' => by
          rw [Phi_sub hj]
          exact ih (k + 1 - j) (by omega) i' e' h'⟩
        have q := step k _ L i e b he hb
        have eq : Phi bs (k + 2) 0 i = runF b.1 b.2 (Phi bs (k + 1)) := by
          funext ds S
          exact Phi_run (b := b.1) (n := b.2) hb
        rw [eq]
        exact q
  have all : ∀ m (i : Nat) (e : FnE), fs[i]? = some e → Gr.FnG P w K mg base CX m e.f e.fd e.ps (spD wn cl e.ps.length (Phi bs m 0 i)) := by
    intro m
    induction m using Nat.strongRecOn with
    | ind m ih => exact one m ih
  exact fun k => ⟨fun j hj i e he => by rw [Phi_sub hj]; exact all (k - j) i e he⟩
end

/-! ### the rules, in short -/
section
variable {X : Cx} {w : Wn} {tabs : List Tb} {EX : EXT} {lv : Lv} {a b c e : Expr} {es rest : List Expr} {da db de : Den} {ra : DenA} {ta tb tc : DenT} {p p2 p3 pos apos cpos : Pos} {x : Str}
theorem xv (i : Nat) (hv : Vis X.env.scope x) (hN : X.N[i]? = some x := by rfl) (hd : (x == ("__debug__" : Str)) = false := by decide) (hcd : (x == ("__classdict__" : Str)) = false := by decide) : PE X (.Name x pos) (semE w EX lv (dVar i)) := pd_var hN hv hd hcd
theorem xint {i : Int} {j : Nat} : PE X (.Constant (.int i) j pos) (semE w EX lv (dC (.int i))) := pd_c pe_int fun _ _ => rfl
theorem xbl {i : Bool} {j : Nat} : PE X (.Constant (.bool i) j pos) (semE w EX lv (dC (.bl i))) := pd_c pe_bl fun _ _ => rfl
theorem xnon {j : Nat} : PE X (.Constant .none j pos) (semE w EX lv (dC .non)) := pd_c pe_non fun _ _ => rfl
theorem xstr {i : Str} {j : Nat} : PE X (.Constant (.str i) j pos) (semE w EX lv (dC (.str i))) := pd_c pe_str fun _ _ => rfl
theorem xcons {es : List Expr} (ha : PE X a (semE w EX lv da)) (hr : PA X es (semA w EX lv ra)) (hst : starEach (a :: es) X.env = (false, eval a X.env) :: starEach es X.env := by rfl) : PA X (a :: es) (semA w EX lv (dCons da ra)) := pd_cons ha hr hst
theorem xcmp {op : CmpOp} {o : Op2} (ho : OpR X (compareOp op) (rOp w o)) (ha : PE X a (semE w EX lv da)) (hb : PE X b (semE w EX lv db)) (h : op ≠ .In := by decide) (h2 : op ≠ .NotIn := by decide) : PE X (.Compare a [op] [b] pos) (semE w EX lv (dOp o da db)) := pd_cmp ho ha hb (nomark b h h2)
theorem ycmp {op : CmpOp} {o : Op2} (ho : OpR X (compareOp op) (rOp w o)) (ha : PE X a (semE w EX lv da)) (hb : PE X b (semE w EX lv db)) (h : op ≠ .In := by decide) (h2 : op ≠ .NotIn := by decide) : PT X (.Compare a [op] [b] pos) (semT w EX lv (dBl (dOp o da db))) := td_cmp ho ha hb (nomark b h h2)
theorem ytru (ha : PE X a (semE ⟨X.K, tabs⟩ EX lv da)) (he : ∀ whole, isTrue a X.env whole = (do let v ← whole; standAt a.pos; holding [v] (truthy v)) := by intro _; rfl) : PT X a (semT ⟨X.K, tabs⟩ EX lv (dTru da)) := td_tru ha he
theorem xix (ha : PE X a (semE ⟨X.K, tabs⟩ EX lv da)) (hb : PE X b (semE ⟨X.K, tabs⟩ EX lv db)) (hs : PlainIx b := by intro _ _; rfl) : PE X (.Subscript a b pos) (semE ⟨X.K, tabs⟩ EX lv (dOp ixD da db)) := pd_ix ixd ha hb hs
theorem xlen (hm : X.mg "len" = none) (ha : PA X (e :: es) (semA ⟨X.K, tabs⟩ EX lv ra)) (hg : Gl X "len" := by rfl) (he : starEach (e :: es) X.env = (false, eval e X.env) :: starEach es X.env := by rfl) (hpl : (backTo pos (starEach es X.env)).any (·.1) = false := by rfl) :
    PE X (.Call (.Name "len" p) (e :: es) [] pos) (semE ⟨X.K, tabs⟩ EX lv (dCl lenD ra)) := pd_callB crd_len hg hm bi_len ha (by decide) (by decide) he hpl
theorem xabs (hm : X.mg "abs" = none) (ha : PA X (e :: es) (semA ⟨X.K, tabs⟩ EX lv ra)) (hg : Gl X "abs" := by rfl) (he : starEach (e :: es) X.env = (false, eval e X.env) :: starEach es X.env := by rfl) (hpl : (backTo pos (starEach es X.env)).any (·.1) = false := by rfl) :
    PE X (.Call (.Name "abs" p) (e :: es) [] pos) (semE ⟨X.K, tabs⟩ EX lv (dCl absD ra)) := pd_callB crd_abs hg hm bi_abs ha (by decide) (by decide) he hpl
theorem xmin (hm : X.mg "min" = none) (ha : PA X (e :: es) (semA ⟨X.K, tabs⟩ EX lv ra)) (hg : Gl X "min" := by rfl) (he : starEach (e :: es) X.env = (false, eval e X.env) :: starEach es X.env := by rfl) (hpl : (backTo pos (starEach es X.env)).any (·.1) = false := by rfl) (hc : X.calm = true := by rfl) :
    PE X (.Call (.Name "min" p) (e :: es) [] pos) (semE ⟨X.K, tabs⟩ EX lv (dCl minD ra)) := pd_callB (crd_min hc) hg hm bi_min ha (by decide) (by decide) he hpl
theorem xsorted (hm : X.mg "sorted" = none) (ha : PA X (e :: es) (semA ⟨X.K, tabs⟩ EX lv ra)) (hg : Gl X "sorted" := by rfl) (he : starEach (e :: es) X.env = (false, eval e X.env) :: starEach es X.env := by rfl) (hpl : (backTo pos (starEach es X.env)).any (·.1) = false := by rfl) :
    PE X (.Call (.Name "sorted" p) (e :: es) [] pos) (semE ⟨X.K, tabs⟩ EX lv (dCl sortedD ra)) := pd_callB crd_sorted hg hm bi_sorted ha (by decide) (by decide) he hpl
theorem xtuple (hm : X.mg "tuple" = none) (ha : PA X (e :: es) (semA ⟨X.K, tabs⟩ EX lv ra)) (hg : Gl X "tuple" := by rfl) (he : starEach (e :: es) X.env = (false, eval e X.env) :: starEach es X.env := by rfl) (hpl : (backTo pos (starEach es X.env)).any (·.1) = false := by rfl) :
    PE X (.Call (.Name "tuple" p) (e :: es) [] pos) (semE ⟨X.K, tabs⟩ EX lv (dCl tupleD ra)) := pd_callTy crd_tuple hg hm bt_tuple ha (by decide) (by decide) he hpl
theorem xlist (hm : X.mg "list" = none) (ha : PA X (e :: es) (semA ⟨X.K, tabs⟩ EX lv ra)) (hg : Gl X "list" := by rfl) (he : starEach (e :: es) X.env = (false, eval e X.env) :: starEach es X.env := by rfl) (hpl : (backTo pos (starEach es X.env)).any (·.1) = false := by rfl) :
    PE X (.Call (.Name "list" p) (e :: es) [] pos) (semE ⟨X.K, tabs⟩ EX lv (dCl listD ra)) := pd_callTy crd_list hg hm bt_list ha (by decide) (by decide) he hpl
theorem xisi {y : Str} (T : Ty) (hvT : bootBuiltins y = some (.type T.nm)) (hm : X.mg "isinstance" = none) (hmT : X.mg y = none) (ha : PE X a (semE ⟨X.K, tabs⟩ EX lv da)) (hg : Gl X "isinstance" := by rfl) (hgT : Gl X y := by rfl) (hnT : y ≠ "__name__" := by decide) (hdT : (y == ("__debug__" : Str)) = false := by decide)
    (he : starEach [a, .Name y p2] X.env = (false, eval a X.env) :: starEach [.Name y p2] X.env := by rfl) (he2 : starEach [.Name y p2] X.env = (false, eval (.Name y p2) X.env) :: starEach [] X.env := by rfl) (hpl : (backTo pos (starEach [.Name y p2] X.env)).any (·.1) = false := by rfl) :
    PE X (.Call (.Name "isinstance" p) [a, .Name y p2] [] pos) (semE ⟨X.K, tabs⟩ EX lv (dIsi T da)) := pd_isi hg hm hgT hmT hvT hnT hdT ha he he2 hpl
theorem xmt {m : OpM} {o : Expr} {name : Str} {id : String} (slot : Slot "list" name id) (hty : typeOf (.builtin id) = pure (.type "method_descriptor")) (hm : MtR X id (rMt ⟨X.K, tabs⟩ m)) (ho : PE X o (semE ⟨X.K, tabs⟩ EX lv da)) (ha : PA X (e :: es) (semA ⟨X.K, tabs⟩ EX lv ra))
    (hbase : attributeBase o name X.env (eval o X.env) = eval o X.env := by rfl)
    (hfew : ((backTo cpos (starEach (e :: es) X.env)).all (fun x => !x.1) && (backToKw cpos (keywordEach [] X.env)).all (fun x => x.1.isSome)
      && decide ((e :: es).length + ([] : List Keyword).length + (if ([] : List Keyword).isEmpty then 0 else 1) < 30)) = true := by rfl)
    (hline : (apos.endLine == cpos.line) = true := by rfl) (hs : starEach (e :: es) X.env = (false, eval e X.env) :: starEach es X.env := by rfl) (hplain : (backTo cpos (starEach es X.env)).any (·.1) = false := by rfl) :
    PE X (.Call (.Attribute o name apos) (e :: es) [] cpos) (semE ⟨X.K, tabs⟩ EX lv (dMt m da ra)) := pd_mt slot hty hm ho ha hbase hfew hline hs hplain
theorem xcall {CX : CXT} {cl : Option (Nat → Value)} {fs : List FnE} {k n : Nat} {e0 : FnE} (i : Nat) (L : LvOk X.prog X.w X.K X.mg X.base CX ⟨X.K, tabs⟩ cl fs k lv) (T : FnsOk X.K X.mg fs) (hr : RoomG k X.A) (hp : ∀ σ, PassesAt CX X σ (EE cl EX σ)) (hq : cl = none → EX = noE) (hi : fs[i]? = some e0) (hx : e0.x = x) (hn : e0.ps.length = n)
    (ha : PA X (a :: es) (semA ⟨X.K, tabs⟩ EX lv ra)) (hg : Gl X x := by rfl) (hdb : (x == ("__debug__" : Str)) = false := by decide) (he : starEach (a :: es) X.env = (false, eval a X.env) :: starEach es X.env := by rfl) (hpl : (backTo pos (starEach es X.env)).any (·.1) = false := by rfl) :
    PE X (.Call (.Name x p) (a :: es) [] pos) (semE ⟨X.K, tabs⟩ EX lv (dCallF i n ra)) := pd_callF L T hr hp hq hi hn hx hg ha hdb he hpl
theorem zexpr {st : DenS} (ha : PE X e (semE w EX lv de)) (hs : swapsWith e none pos.line X.env = pure false := by rfl) : PS X (.Expr e pos) (semS w EX lv (sExpr de)) := sd_expr ha hs
theorem gname (i : Nat) (hN : X.N.Nodup) (hx : Loc X.env.scope x) (hf : X.fn x = true ∨ X.env.scope.names.lookup x = some .local) (hi : X.N[i]? = some x := by rfl) : PG X (.Name x pos) (semG w (.nm i)) := gd_name hN hi hx hf
theorem gcons {es : List Expr} {i : Nat} {is : List Nat} (h1 : PG X e (semG w (.nm i))) (h2 : PGs X es (semGs w is)) (hs : (assignEach (e :: es) X.env).map (·.2) = assign e X.env :: (assignEach es X.env).map (·.2) := by rfl) : PGs X (e :: es) (semGs w (i :: is)) := gds_cons h1 h2 hs
theorem gtup {es : List Expr} {k : Nat} {is : List Nat} (h : PGs X es (semGs ⟨X.K, tabs⟩ is)) (hc : X.calm = true := by rfl) (hn : (assignEach es X.env).length = is.length := by rfl) (hst : (assignEach es X.env).findIdx? (·.1) = none := by rfl) :
    PG X (.Tuple es k pos) (semG ⟨X.K, tabs⟩ (.tp is)) := gd_tup hc h hn hst
theorem zasg {tg : Expr} {t : Tg} (ha : PE X e (semE w EX lv de)) (hg : PG X tg (semG w t)) (hs : swapsWithSole [tg] e pos.line X.env = pure false := by rfl) (hw : swappedStores [tg] e X.env = pure none := by rfl) (h1 : (assignEach [tg] X.env).map (·.2) = [assign tg X.env] := by rfl) :
    PS X (.Assign [tg] e pos) (semS w EX lv (sAsg t de)) := sd_asg ha hg hs hw h1
theorem zsub {o i : Expr} {dox di : Den} (ho : PE X o (semE ⟨X.K, tabs⟩ EX lv dox)) (hi : PE X i (semE ⟨X.K, tabs⟩ EX lv di)) (ha : PE X e (semE ⟨X.K, tabs⟩ EX lv de))
    (hasg : ∀ v, assign (.Subscript o i p2) X.env v = (do
      let ov ← holding [v] (eval o X.env)
      let iv ← holding [v, ov] (eval i X.env)
      standAt p2
      holding [v, ov, iv] (setItem ov iv v)
      release [v, ov, iv] []) := by intro _; rfl) (hs : swapsWithSole [.Subscript o i p2] e pos.line X.env = pure false := by rfl) (hw : swappedStores [.Subscript o i p2] e X.env = pure none := by rfl) (h1 : (assignEach [.Subscript o i p2] X.env).map (·.2) = [assign (.Subscript o i p2) X.env] := by rfl) :
    PS X (.Assign [.Subscript o i p2] e pos) (semS ⟨X.K, tabs⟩ EX lv (sSub dox di de)) := sd_sub ho hi ha hasg hs hw h1
theorem irng1 {tg : Expr} (hm : X.mg "range" = none) (ha : PA X [a] (semA w EX lv ra)) (hg : Gl X "range" := by rfl) (hs : starEach [a] X.env = [(false, eval a X.env)] := by rfl) : PI X tg (.Call (.Name "range" p) [a] [] pos) (semI w EX lv (iRange1 ra)) := id_range1 hg hm ha hs
theorem zfor {di : DenI} {t : Tg} {bd : DenS} {bs : List Stmt} {tg iter : Expr} (hp : PassesOwn (model X.prog X.w) X.A X.env X.xe) (hi : PI X tg iter (semI w EX lv di)) (hg : PG X tg (semG w t)) (hb : PSs X bs (semS w EX lv bd))
    (hc : X.calm = true := by rfl) (hs : ∀ x, foldedSetIterable iter X.env x = pure x := by intro _; rfl) : PS X (.For tg iter bs [] pos) (semS w EX lv (sFor di t bd)) := sd_for hp hc hi hg hb hs
theorem xchain {op1 op2 : CmpOp} {ops : List CmpOp} {r1 r2 : Expr} {rs : List Expr} {k : DenK} (ha : PE X a (semE w EX lv da)) (hk : PK2 X w EX lv (op1 :: op2 :: ops) (r1 :: r2 :: rs) k) (hm : lastMarks (op1 :: op2 :: ops) (r1 :: r2 :: rs) = false := by with_unfolding_all rfl) :
    PE X (.Compare a (op1 :: op2 :: ops) (r1 :: r2 :: rs) pos) (semE w EX lv (dChain da k)) := pd_chain ha hk hm
theorem xlc {elt tg iter : Expr} {ifs : List Expr} {scope : Scope} {di : DenI} {t : Tg} (own : List (Str × Nat)) (hN : X.N.Nodup) (hi : PI X tg iter (semI w EX lv di)) (ok : BlkOk X.N X.env.scope scope own) (hp : LParts X scope tg ifs elt (semG w t) (semT w noE lv tc) (semE w noE lv de))
    (hv : ∀ i ∈ t.slots, i ∈ own.map (·.2) := by decide) (hc : X.calm = true := by rfl) (hs : ∀ x, foldedSetIterable iter X.env x = pure x := by intro _; rfl) :
    PE X (.ListComp elt [⟨tg, iter, ifs, 0⟩] scope pos) (semE w EX lv (dLc di t tc de (own.map (·.2)))) := pd_lc hc hN hi ok hv hp hs
theorem ptsYes : PTs X [] (semT w EX lv tYesD) := ⟨fun pins s σ H Q I h => wpAny_tests_nil (by
  obtain ⟨ρ, S, ι, he, hs, hw⟩ := h
  exact ⟨H, I, PB.now hw hs⟩)⟩
end
end Dv

namespace Dv
open PySem PySem.Spec PyProof.Rows L2 Gr

/-- the tables of the defs with these names are empty -/
def TabsAt (K : PySem.W.Frag) (mg : Str → Option Value) (h : Heap) (xs : List Str) : Prop := ∀ x ∈ xs, ∀ f, mg x = some (.ref f) → LamX.OwnTab K f h
/-- the table of one def -/
theorem tab_of {K : PySem.W.Frag} {mg : Str → Option Value} {h : Heap} {xs : List Str} {x : Str} {f c P : Addr} {o : Obj} {fd : FuncData} (T : TabsAt K mg h xs) (hx : x ∈ xs) (hf : mg x = some (.ref f)) (l : K.lookup f = some o) (hd : o.data = .func fd) (hc : fd.code = .ref c) (hh : PySem.W.codeHdIn K c P = true) :
    h.get? P = some { cls := .none, data := .fields #[] } := by
  unfold PySem.W.codeHdIn at hh
  split at hh
  · rename_i dd vs sl hk
    simp only [Bool.and_eq_true] at hh
    obtain ⟨⟨⟨⟨⟨e1, _⟩, _⟩, _⟩, _⟩, _⟩ := hh
    split at e1
    · rename_i P' h11
      have hP : P' = P := beq_iff_eq.mp e1
      subst hP
      exact T x hx f hf c P' o fd _ _ vs _ l hd hc hk h11
    · cases e1
  · cases hh
theorem tabK_nil {H : Hp} {t : Tb} (h : H t.1 = some (.tbl #[])) : TabK H t := by
  obtain ⟨P, q⟩ := t
  cases q with
  | none => exact ⟨#[], h, by trivial⟩
  | some q => exact ⟨#[], h, by trivial, fun pos cv hc => by
      simp [codeAmong] at hc⟩
theorem tu_none {tabs : List Tb} (h : ∀ t ∈ tabs, t.2 = none) : ∀ t ∈ tabs, ∀ u ∈ tabs, t.1 = u.1 → t = u := fun t ht u hu e => Prod.ext e ((h t ht).trans (h u hu).symm)
end Dv

namespace Gx
open PySem PySem.Spec PyProof.Rows L2 GenW Gr
section
variable {X : Cx} {pins : List (Addr × Obj)} {σ : L2.St} {H : Hp} {s : Shared}
theorem room_in3 {j : Nat} {A : Around} (r : RoomG (j + 1) A) (env : Env) : RoomG j (A.in1.in1.in1.deeper env) :=
  ⟨⟨r.hd, by have := r.dp; show A.depth + 1 + 3 * j + 5 < _; omega, by have := r.un; show A.units + 1 + 1 + 1 + 3 + 16 * j + 200 < _; omega⟩, r.gd⟩
/-- sorted(gen), the items pairs of ints -/
theorem call_sortedG {j : Nat} {QE : List V → Hp → Prop} {a : Addr} {g : Nat} {E : Value → Shared → Prop} {Q : Value → Shared → Prop} (hr : RoomG (j + 1) X.A) (hF : X.A.frames = some X.stack) (f : FeedL X pins σ j QE a g s)
    (h : ∀ us ys H s', Vals ys us → Inv X pins σ H s' → QE ys H → us.length ≤ sizeLine ∧ ∃ k : Value → Int × Int, (∀ v ∈ us, Srt.IsPair s'.heap v (k v).1 (k v).2) ∧
      ∀ (out : List Value) (h' : Heap) (p : Addr), SrtO.Srtd (fun v u => SrtO.lexB (k v) (k u)) out → SrtO.Stb (fun v u => SrtO.lexB (k v) (k u)) out us → (∀ b o, s'.heap.get? b = some o → h'.get? b = some o) → s'.heap.objs.size ≤ p →
        (∃ n, h'.get? p = some (seqObj "list" out.toArray n)) → Q (.ref p) { s' with heap := h' }) : wpAny (model X.prog X.w) X.A (call (.builtin "sorted") [.ref a]) Q E s := by
  refine Calls.call_function_entry kind_sorted plain_sorted entry_sorted (args_sorted1 _) ?_
  unfold Builtin.«sorted»
  refine wpAny_bind (m := checkCount "sorted" 1 1 _) (wpAny_pure ?_)
  refine wpAny_bind (collect_gen (A := X.A.in1) (X := X) hr.hd hr.depth hF (fun env => room_in3 hr env) f fun us ys H' s' rv I q => ?_)
  obtain ⟨hz, k, hp, fin⟩ := h us ys H' s' rv I q
  refine wpAny_bind (wpAny_newList ?_ hz)
  have hoL : (s'.heap.push (seqObj "list" us.toArray 0)).get? s'.heap.objs.size = some (seqObj "list" us.toArray 0) := Heap.get?_push_size _ rfl
  have kp : ∀ b o, s'.heap.get? b = some o → (s'.heap.push (seqObj "list" us.toArray 0)).get? b = some o := fun b o e => Heap.get?_push_of_some _ e
  show wpAny _ _ _ _ _ { s' with heap := s'.heap.push (seqObj "list" us.toArray 0) }
  refine wpAny_bind (wpAny_holding (wpAny_call_entry slot_list_sort ⟨_, hoL, rfl⟩ entry_list_sort
    (SrtO.list_sort_ord (SrtO.swo_lex k) hoL hz (fun h2 => SrtO.pairs_sortableO (s := { s' with heap := s'.heap.push (seqObj "list" us.toArray 0) }) (by omega) (fun v hm => (hp v hm).keeps fun b o e _ => kp b o e) fun o e => ?_) fun out hs hb => ⟨_, rfl, ?_⟩) (args_list_sort _)))
  · rw [hoL] at e
    cases e
    intro c
    exact absurd (Value.type.inj c) (by decide)
  · obtain ⟨ep, he⟩ := PyProof.Rows.sortedHeap_at (vs := us) (out := out.toArray) hoL
    refine wpAny_pure ⟨_, rfl, fin out _ s'.heap.objs.size hs hb (fun b o e => ?_) (Nat.le_refl _) ⟨ep, he⟩⟩
    rw [PyProof.Rows.sortedHeap_old (Nat.ne_of_lt (Heap.lt_size e)) (Heap.lt_size (kp b o e))]
    exact kp b o e
theorem boot_sortedG : bootBuiltins "sorted" = some (.builtin "sorted") := by decide +kernel
theorem pe_sortedG {c P : Addr} {elt tg iter : Expr} {ifs : List Expr} {scope : Scope} {gpos p pos : Pos} {own : List (Str × Nat)} {wi : TI} {gt : TG} {tt : TT} {te : TE} {j : Nat} {QQ : VK → List V → Hp → Prop}
    (hr : RoomG (j + 1) X.A) (hgl : Gl X "sorted") (hm : X.mg "sorted" = none) (hN : X.N.Nodup) (TB : LamX.TabB X.base X.mg c P) (hcode : X.env.code = .ref c) (S : GScp X.N X.env.scope scope own) (hi : PI X tg iter wi)
    (hp : GParts X j scope tg ifs elt gt tt te) (hs : ∀ v, genFold iter X.env v = pure v)
    (fin : ∀ (pins : List (Addr × Obj)) (σ : L2.St) (Q : VK) us ys H s', Vals ys us → Inv X pins σ H s' → QQ Q ys H → us.length ≤ sizeLine ∧ ∃ k : Value → Int × Int, (∀ v ∈ us, Srt.IsPair s'.heap v (k v).1 (k v).2) ∧
      ∀ (out : List Value) (h' : Heap) (p : Addr), SrtO.Srtd (fun v u => SrtO.lexB (k v) (k u)) out → SrtO.Stb (fun v u => SrtO.lexB (k v) (k u)) out us → (∀ b o, s'.heap.get? b = some o → h'.get? b = some o) → s'.heap.objs.size ≤ p →
        (∃ n, h'.get? p = some (seqObj "list" out.toArray n)) → EP X pins σ Q (.ref p) { s' with heap := h' })
    (he : starEach [.GeneratorExp elt [⟨tg, iter, ifs, 0⟩] scope gpos] X.env = (false, eval (.GeneratorExp elt [⟨tg, iter, ifs, 0⟩] scope gpos) X.env) :: starEach [] X.env := by rfl) :
    PE X (.Call (.Name "sorted" p) [.GeneratorExp elt [⟨tg, iter, ifs, 0⟩] scope gpos] [] pos) (fun σ H Q => wi σ H fun J H1 => TabG H1 P ∧ ∀ H2, Tabbed P H1 H2 → TurnL J gt tt te (own.map (·.2)) σ (QQ Q) H2) := by
  refine ⟨fun pins s σ H Q I h => ?_⟩
  refine wpAny_Call_Name_kw (ld_blt I hgl hm boot_sortedG ?_)
  refine PyProof.Rows.callWith_builtin1 ?_ he (by rfl)
  rw [he]
  show wpAny _ _ (spliced ((false, eval (.GeneratorExp elt [⟨tg, iter, ifs, 0⟩] scope gpos) X.env) :: backTo pos (starEach [] X.env))) _ _ s
  refine Calls.spliced_cons (gen_madeL hr hN TB hcode S hi hp hs I h fun a g s5 f => ?_)
  refine Calls.spliced_nil ?_
  exact call_sortedG hr I.ok.frames f fun us ys H s' rv I' q => fin pins σ Q us ys H s' rv I' q
end
end Gx

namespace Dv
open PySem PySem.Spec PyProof.Rows L2 Gr
section
variable {X : Cx} {tabs : List Tb}
/-! ### min, max of a pair -/
def min1D : OpN
  | [.tup [.int i, .int j]], S => .ok (.int (if j < i then j else i)) S
  | _, _ => .no
def max1D : OpN
  | [.tup [.int i, .int j]], S => .ok (.int (if i < j then j else i)) S
  | _, _ => .no
theorem int_of_holds {h : Heap} {v : Value} {i : Int} (q : PySem.W.Holds h v i) : ∃ t, v = .int i t := by
  obtain ⟨as, r⟩ := q
  cases r
  exact ⟨_, rfl⟩
theorem crd_min1 (hc : X.calm = true) (hu : X.A.units + 64 < cLine) : CallR X (.builtin "min") (rCl ⟨X.K, tabs⟩ min1D) := by
  rintro pins s σ H xs us Q I rx ⟨S, ι, ds, hs, r, hw⟩
  unfold min1D at hw
  split at hw
  · rename_i i j
    obtain ⟨v, rfl, q⟩ := repl1 r
    obtain ⟨a, vs, rfl, hq, l⟩ := q
    obtain ⟨v1, v2, rfl, q1, q2⟩ := repl2 l
    cases q1; cases q2
    obtain ⟨its, rv, ht, hz⟩ := I.tuple hq.t
    obtain ⟨u, rfl, ru⟩ := vals1 rx
    cases ru
    obtain ⟨u1, u2, rfl, ri, rj⟩ := vals2 rv
    obtain ⟨t1, rfl⟩ := ri
    obtain ⟨t2, rfl⟩ := rj
    refine PySem.W.min_tuple_datum (α := Int) (x := i) (xs := [j]) (I.ok.hd hc) (show s.heap.IsTuple a _ from ht) (.cons ⟨_, .int i t1⟩ (.cons ⟨_, .int j t2⟩ .nil)) (by show X.A.units + 1 + 0 < cLine; omega) fun k v h' tk _ hv kp => ?_
    obtain ⟨t, rfl⟩ := int_of_holds hv
    have e : PySem.W.minOf i [j] = if j < i then j else i := by
      show (if decide (j < i) = true then j else i) = _
      simp
    rw [e]
    exact ⟨.int _, H, I.kept (t' := tk) kp, ⟨t, rfl⟩, PV.now hw hs rfl⟩
  · exact hw.elim
theorem crd_max1 (hc : X.calm = true) (hu : X.A.units + 64 < cLine) : CallR X (.builtin "max") (rCl ⟨X.K, tabs⟩ max1D) := by
  rintro pins s σ H xs us Q I rx ⟨S, ι, ds, hs, r, hw⟩
  unfold max1D at hw
  split at hw
  · rename_i i j
    obtain ⟨v, rfl, q⟩ := repl1 r
    obtain ⟨a, vs, rfl, hq, l⟩ := q
    obtain ⟨v1, v2, rfl, q1, q2⟩ := repl2 l
    cases q1; cases q2
    obtain ⟨its, rv, ht, hz⟩ := I.tuple hq.t
    obtain ⟨u, rfl, ru⟩ := vals1 rx
    cases ru
    obtain ⟨u1, u2, rfl, ri, rj⟩ := vals2 rv
    obtain ⟨t1, rfl⟩ := ri
    obtain ⟨t2, rfl⟩ := rj
    refine PySem.W.max_tuple_datum (α := Int) (x := i) (xs := [j]) (I.ok.hd hc) (show s.heap.IsTuple a _ from ht) (.cons ⟨_, .int i t1⟩ (.cons ⟨_, .int j t2⟩ .nil)) (by show X.A.units + 1 + 0 < cLine; omega) fun k v h' tk _ hv kp => ?_
    obtain ⟨t, rfl⟩ := int_of_holds hv
    have e : PySem.W.maxOf i [j] = if i < j then j else i := by
      show (if decide (i < j) = true then j else i) = _
      simp
    rw [e]
    exact ⟨.int _, H, I.kept (t' := tk) kp, ⟨t, rfl⟩, PV.now hw hs rfl⟩
  · exact hw.elim
/-! ### insert -/
def insertD : OpM
  | .ref i, [.int k, y], S => match S[i]? with
    | some (.lst true xs) => if 0 ≤ k ∧ k < 1000000 ∧ xs.length < mx then .ok .non (S.set i (.lst true (xs.take k.toNat ++ [y] ++ xs.drop k.toNat))) else .no
    | _ => .no
  | _, _, _ => .no
end
/-! ### isinstance(e, (A, B)) -/
section
variable {X : Cx} {EX : EXT} {lv : Lv} {tabs : List Tb} {a : Expr} {da : Den} {p p2 p3 p4 pos : Pos}
def dIsi2 (T U : Ty) (a : Den) : Den := fun lv ρ S => (a lv ρ S).bind fun d S1 => .ok (.bl (isK (kdOf d S1) T || isK (kdOf d S1) U)) S1
theorem pd_isi2 {y z : Str} {k : Nat} {T U : Ty} (hg : Gl X "isinstance") (hm : X.mg "isinstance" = none) (hgT : Gl X y) (hmT : X.mg y = none) (hvT : bootBuiltins y = some (.type T.nm)) (hnT : y ≠ "__name__") (hdT : (y == ("__debug__" : Str)) = false)
    (hgU : Gl X z) (hmU : X.mg z = none) (hvU : bootBuiltins z = some (.type U.nm)) (hnU : z ≠ "__name__") (hdU : (z == ("__debug__" : Str)) = false) (ha : PE X a (semE ⟨X.K, tabs⟩ EX lv da))
    (he : starEach [a, .Tuple [.Name y p2, .Name z p3] k p4] X.env = (false, eval a X.env) :: starEach [.Tuple [.Name y p2, .Name z p3] k p4] X.env)
    (he2 : starEach [.Tuple [.Name y p2, .Name z p3] k p4] X.env = (false, eval (.Tuple [.Name y p2, .Name z p3] k p4) X.env) :: starEach [] X.env)
    (he3 : starEach [.Name y p2, .Name z p3] X.env = (false, eval (.Name y p2) X.env) :: starEach [.Name z p3] X.env) (he4 : starEach [.Name z p3] X.env = (false, eval (.Name z p3) X.env) :: starEach [] X.env)
    (hpl : (backTo pos (starEach [.Tuple [.Name y p2, .Name z p3] k p4] X.env)).any (·.1) = false) :
    PE X (.Call (.Name "isinstance" p) [a, .Tuple [.Name y p2, .Name z p3] k p4] [] pos) (semE ⟨X.K, tabs⟩ EX lv (dIsi2 T U da)) := by
  refine PE.imp (pe_callB Gn.call_isiV hg hm bi_isinstance (pa_cons ha (pa_cons (pe_tup (pa_cons (pe_bltn (v := .ty T.nm) hgT hmT hvT rfl hnT hdT) (pa_cons (pe_bltn (v := .ty U.nm) hgU hmU hvU rfl hnU hdU) pa_nil he4) he3)) pa_nil he2) he) (by decide) (by decide) he hpl) fun σ H Q h => ?_
  obtain ⟨ρ, S, ι, h0, hs, hw⟩ := h
  refine stepE (Po := fun ι H => PV ⟨X.K, tabs⟩ ι H Q) h0 hs (fun l q => q.mono l) hw fun x S1 v H1 ι1 l1 s1 r1 e1 h1 => ?_
  refine ⟨by show 2 ≤ sizeLine; decide, fun tp hp => ?_⟩
  have l2 := le_upd (ι := ι1) (u := .tup [.ty T.nm, .ty U.nm]) hp
  have s2 := s1.extra (u := .tup [.ty T.nm, .ty U.nm]) hp
  obtain ⟨t, ty, kt⟩ := kd_x s2 (Rep.mono l2 _ _ r1)
  refine ⟨v, tp, [.ty T.nm, .ty U.nm], t, [.type T.nm, .type U.nm], isK (kdOf x S1) T || isK (kdOf x S1) U, rfl, upd_same, .cons (.ty _) (.cons (.ty _) .nil), ty, ?_, h1 _ _ ι1 l2 s2 rfl⟩
  refine kitAny_cons (kt T) (fun e => ?_) fun e => by rw [e]; rfl
  rw [e, Bool.false_or]
  refine kitAny_cons (kt U) (fun e2 => ?_) fun e2 => e2
  rw [e2]
  exact kitAny_nil
end
/-! ### anything that is never reached -/
def sNo : DenS := fun _ _ _ => .no
/-! ### sorted of a generator expression -/
open Classical in
noncomputable def glGo (chk : Sto → Prop) (t : Tg) (cond : Env → Sto → R Bool) (elt : Env → Sto → R D) (ρ : Env) : List D → List D → Sto → R (List D)
  | [], acc, S => if chk S then .ok acc S else .no
  | x :: xs, acc, S => if chk S then (match tgD t x ρ with
    | some ρ1 => (quiet (cond ρ1 S)).bind fun b S1 => if b = true then (quiet (elt ρ1 S1)).bind fun y S2 => if acc.length < mx then glGo chk t cond elt ρ xs (acc ++ [y]) S2 else .no
      else glGo chk t cond elt ρ xs acc S1
    | none => .no) else .no
def srtK : List D → Sto → R D := fun ys S => if ys.all isPr = true ∧ ys.length ≤ mx then .ok (.ref S.length) (S ++ [.lst true (isort ltK ys)]) else .no
noncomputable def dSg (di : DenI) (t : Tg) (cond : DenT) (elt : Den) (vs : List Nat) : Den := fun lv ρ S => (di lv ρ S).bind fun src S1 => (glGo src.chk t (cond lv.dn) (elt lv.dn) (wipeE ρ vs) src.items [] S1).bind srtK
section
variable {X : Cx} {w : Wn} {EX : EXT} {lv : Lv} {σ : L2.St} {H : Hp} {ρ : Env} {S : Sto} {ι : List Addr} {elt tg iter : Expr} {ifs : List Expr} {scope : Scope} {own : List (Str × Nat)} {p pos : Pos} {di : DenI} {t : Tg} {tc : DenT} {de : Den}
def glQ (w : Wn) (k : List D → Sto → R D) (Q : VK) : List V → Hp → Prop := fun vs H => ∃ S ι ds, SRep w.K w.tabs ι S H ∧ RepL w.K ι H ds vs ∧ (k ds S).wp (PV w ι H Q) noX
theorem gl_read {P : Addr} {k : List D → Sto → R D} {Q : VK} (hk : ∀ ds S c S', k ds S ≠ .ex c S') (hP : (P, none) ∈ w.tabs) (hv : ∀ i ∈ t.slots, i ∈ own.map (·.2))
    (h : semE w EX lv (fun lv ρ S => (di lv ρ S).bind fun src S1 => (glGo src.chk t (tc lv.dn) (de lv.dn) (wipeE ρ (own.map (·.2))) src.items [] S1).bind k) σ H Q) :
    semI w EX lv di σ H fun J H1 => Gx.TabG H1 P ∧ ∀ H2, Gx.Tabbed P H1 H2 → Gx.TurnL J (semG w t) (semT w noE lv.dn tc) (semE w noE lv.dn de) (own.map (·.2)) σ (glQ w k Q) H2 := by
  obtain ⟨ρ, S, ι, he, hs, hw⟩ := h
  refine ⟨ρ, S, ι, he, hs, ?_⟩
  dsimp only at hw
  cases e : di lv ρ S with
  | no => rw [e] at hw; exact hw.elim
  | ex c S1 => rw [e] at hw; exact hw
  | ok src S1 =>
    rw [e] at hw
    intro H1 ι1 J l1 s1 hck hJ
    have hw : ((glGo src.chk t (tc lv.dn) (de lv.dn) (wipeE ρ (own.map (·.2))) src.items [] S1).bind k).wp (PV w ι H Q) (PX w EX ι H σ) := hw
    have hTP : Gx.TabG H1 P := s1.tab _ hP
    refine ⟨hTP, fun H2 hTb => ?_⟩
    have l2 := tabbed_le (ι := ι1) hTb hTP
    have s2 := tabbed_rep s1 hTb hTP hP
    refine ⟨fun i m ys H' => m = src.items.length - i ∧ i ≤ src.items.length ∧ ∃ S' ι' acc, ERep w.K ι' H' ρ σ ∧ SRep w.K w.tabs ι' S' H' ∧ Le ι1 H2 ι' H' ∧ RepL w.K ι' H' acc ys ∧
      ((glGo src.chk t (tc lv.dn) (de lv.dn) (wipeE ρ (own.map (·.2))) (src.items.drop i) acc S').bind k).wp (PV w ι' H' Q) (PX w EX ι' H' σ),
      ⟨_, rfl, Nat.zero_le _, S1, ι1, [], he.mono (l1.trans l2), s2, Le.refl _ _, rfl, R.wp_mono hw (fun f S2 q => q.mono (l1.trans l2)) fun _ _ q => q.mono (l1.trans l2)⟩, ?_⟩
    rintro i m ys H' ⟨rfl, hi, S', ι', acc, e', s', l', ra, w'⟩
    have lall := l2.trans l'
    by_cases hlt : i < src.items.length
    · rw [List.drop_eq_getElem_cons hlt] at w'
      unfold glGo at w'
      split at w'
      · rename_i hck'
        split at w'
        · rename_i ρ1 et
          obtain ⟨g1, g2⟩ := it_go hJ lall s' hck' (List.getElem?_eq_getElem hlt)
          refine .inr ⟨g1, fun ys2 H2 => ∃ S2 ι2 acc2, ERep w.K ι2 H2 ρ σ ∧ SRep w.K w.tabs ι2 S2 H2 ∧ Le ι' H' ι2 H2 ∧ RepL w.K ι2 H2 acc2 ys2 ∧ ((glGo src.chk t (tc lv.dn) (de lv.dn) (wipeE ρ (own.map (·.2))) (src.items.drop (i + 1)) acc2 S2).bind k).wp (PV w ι2 H2 Q) (PX w EX ι2 H2 σ), fun ys2 H2 h2 => ?_, fun x H2 y => ?_⟩
          · obtain ⟨S2, ι2, acc2, q1, q2, q3, q4, q5⟩ := h2
            exact ⟨_, by omega, rfl, hlt, S2, ι2, acc2, q1, q2, l'.trans q3, q4, q5⟩
          · obtain ⟨lX, sX, rx⟩ := g2 x H2 y
            have e' := e'.mono lX
            have s' := sX
            have w' := R.wp_mono w' (fun _ _ q => q.mono lX) fun _ _ q => q.mono lX
            have ra := RepL.mono lX _ _ ra
            refine ⟨_, ι', _, ρ1, e'.wiped _, rx, et, fun σ2 e2 k2 => ⟨by rw [k2 _ hv, wipe_twice], ?_⟩⟩
            have w2 := R.wp_bind.mp w'
            refine ⟨ρ1, S', ι', e2, s', R.wp_mono (quiet_bind (W' := PX w noE ι' H2 σ2) w2) (fun b S2 hb => ?_) fun _ _ q => q⟩
            intro H3 ι3 l3 s3
            cases b with
            | false => exact ⟨S2, ι3, acc, e'.mono l3, s3, lX.trans l3, RepL.mono l3 _ _ ra, R.wp_mono (R.wp_bind.mpr hb) (fun _ _ q => q.mono l3) fun _ _ q => q.mono l3⟩
            | true =>
              refine ⟨ρ1, S2, ι3, e2.mono l3, s3, R.wp_mono (quiet_bind (W' := PX w noE ι3 H3 σ2) hb) (fun yd S4 hy => ?_) fun _ _ q => q⟩
              intro vy H4 ι4 l4 s4 ry
              have l34 := l3.trans l4
              have hy := hy
              split at hy
              · rename_i hz
                have ra4 := RepL.mono l34 _ _ ra
                exact ⟨by rw [← ra4.len]; exact mx_lt hz, S4, ι4, acc ++ [yd], e'.mono l34, s4, lX.trans l34, ra4.app (RepL.one ry), R.wp_mono (R.wp_bind.mpr hy) (fun _ _ q => q.mono l34) fun _ _ q => q.mono l34⟩
              · exact hy.elim
        · exact w'.elim
      · exact w'.elim
    · have ei : i = src.items.length := by omega
      subst ei
      rw [List.drop_length] at w'
      unfold glGo at w'
      split at w'
      · rename_i hck'
        refine .inl ⟨it_stop hJ lall s' hck', S', ι', acc, s', ra, ?_⟩
        have w' : (k acc S').wp (PV w ι' H' Q) (PX w EX ι' H' σ) := w'
        cases ek : k acc S' with
        | ok d S5 => rw [ek] at w'; exact w'
        | ex c S5 => exact (hk _ _ _ _ ek).elim
        | no => rw [ek] at w'; exact w'.elim
      · exact w'.elim
theorem pd_sortedG {tabs : List Tb} {c P : Addr} {gpos : Pos} {j : Nat} (hP : (P, none) ∈ tabs) (hv : ∀ i ∈ t.slots, i ∈ own.map (·.2)) (hr : RoomG (j + 1) X.A) (hgl : Gl X "sorted") (hm : X.mg "sorted" = none) (hN : X.N.Nodup) (TB : LamX.TabB X.base X.mg c P) (hcode : X.env.code = .ref c) (G : Gx.GScp X.N X.env.scope scope own)
    (hi : PI X tg iter (semI ⟨X.K, tabs⟩ EX lv di)) (hp : Gx.GParts X j scope tg ifs elt (semG ⟨X.K, tabs⟩ t) (semT ⟨X.K, tabs⟩ noE lv.dn tc) (semE ⟨X.K, tabs⟩ noE lv.dn de)) (hs : ∀ v, genFold iter X.env v = pure v) :
    PE X (.Call (.Name "sorted" p) [.GeneratorExp elt [⟨tg, iter, ifs, 0⟩] scope gpos] [] pos) (semE ⟨X.K, tabs⟩ EX lv (dSg di t tc de (own.map (·.2)))) := by
  refine PE.imp (Gx.pe_sortedG (QQ := fun Q => glQ ⟨X.K, tabs⟩ srtK Q) hr hgl hm hN TB hcode G hi hp hs fun pins σ Q us ys H s' rv I q => ?_) fun σ H Q h => gl_read (fun ds S c S' e => ?_) hP hv h
  · obtain ⟨S, ι, ds, hs, l, hw⟩ := q
    unfold srtK at hw
    split at hw
    · rename_i hc
      obtain ⟨zs, z1, z2, z3, hzs⟩ := trip l rv
      have key : ∀ z ∈ zs, kvOf s'.heap z.2.2 = keyD z.1 := fun z hz => by
        have hp : isPr z.1 = true := List.all_eq_true.mp hc.1 z.1 (by rw [← z1]; exact List.mem_map.mpr ⟨z, hz, rfl⟩)
        exact kvOf_eq (pr_pair I hp (hzs z hz).1 (hzs z hz).2)
      refine ⟨by rw [← rv.length, ← l.len]; exact mx_le hc.2, kvOf s'.heap, fun x hx => ?_, fun out h' p h1 h2 kp hd hn => ?_⟩
      · rw [← z3] at hx
        obtain ⟨z, hz', rfl⟩ := List.mem_map.mp hx
        have hp : isPr z.1 = true := List.all_eq_true.mp hc.1 z.1 (by rw [← z1]; exact List.mem_map.mpr ⟨z, hz', rfl⟩)
        rw [key z hz']
        exact pr_pair I hp (hzs z hz').1 (hzs z hz').2
      · have eo := isort_uniq (SrtO.swo_lex (kvOf s'.heap)) h1 h2
        have m1 : (isort (fun z y : D × V × Value => ltK z.1 y.1) zs).map (·.1) = isort ltK ds := by rw [← z1]; exact isort_map fun x hx y hy => rfl
        have m2 : (isort (fun z y : D × V × Value => ltK z.1 y.1) zs).map (·.2.2) = out := by
          rw [eo, ← z3]
          exact isort_map fun x hx y hy => by
            show SrtO.lexB _ _ = SrtO.lexB _ _
            rw [key x hx, key y hy]
        obtain ⟨w1, w2⟩ := untrip (zs := isort (fun z y : D × V × Value => ltK z.1 y.1) zs) (K := X.K) (ι := ι) (H := H) fun z hz => hzs z ((isort_perm zs).mem_iff.mp hz)
        rw [m1] at w1
        rw [m2] at w2
        obtain ⟨n, hn⟩ := hn
        obtain ⟨s2, le2, rr2⟩ := new_lst (w := ⟨X.K, tabs⟩) hs (I.hok.fresh hd) w1
        refine ⟨.ref p, _, I.laid (o := .lst ((isort (fun z y : D × V × Value => ltK z.1 y.1) zs).map (·.2.1))) (t' := s'.toks) kp hd ⟨?_, out, n, w2, hn⟩, rfl, hw _ _ _ le2 s2 rr2⟩
        rw [← w1.len, (isort_perm ds).length_eq]
        exact mx_le hc.2
    · exact hw.elim
  · unfold srtK at e
    split at e <;> cases e
end
/-! ### in short -/
section
variable {X : Cx} {tabs : List Tb} {EX : EXT} {lv : Lv} {a e : Expr} {es : List Expr} {da : Den} {ra : DenA} {p p2 p3 p4 pos : Pos}
theorem xmin1 (hu : X.A.units + 64 < cLine) (hm : X.mg "min" = none) (ha : PA X (e :: es) (semA ⟨X.K, tabs⟩ EX lv ra)) (hg : Gl X "min" := by rfl) (he : starEach (e :: es) X.env = (false, eval e X.env) :: starEach es X.env := by rfl) (hpl : (backTo pos (starEach es X.env)).any (·.1) = false := by rfl) (hc : X.calm = true := by rfl) :
    PE X (.Call (.Name "min" p) (e :: es) [] pos) (semE ⟨X.K, tabs⟩ EX lv (dCl min1D ra)) := pd_callB (crd_min1 hc hu) hg hm bi_min ha (by decide) (by decide) he hpl
theorem xmax1 (hu : X.A.units + 64 < cLine) (hm : X.mg "max" = none) (ha : PA X (e :: es) (semA ⟨X.K, tabs⟩ EX lv ra)) (hg : Gl X "max" := by rfl) (he : starEach (e :: es) X.env = (false, eval e X.env) :: starEach es X.env := by rfl) (hpl : (backTo pos (starEach es X.env)).any (·.1) = false := by rfl) (hc : X.calm = true := by rfl) :
    PE X (.Call (.Name "max" p) (e :: es) [] pos) (semE ⟨X.K, tabs⟩ EX lv (dCl max1D ra)) := pd_callB (crd_max1 hc hu) hg hm bi_max ha (by decide) (by decide) he hpl
theorem xisi2 {y z : Str} {k : Nat} (T U : Ty) (hvT : bootBuiltins y = some (.type T.nm)) (hvU : bootBuiltins z = some (.type U.nm)) (hm : X.mg "isinstance" = none) (hmT : X.mg y = none) (hmU : X.mg z = none) (ha : PE X a (semE ⟨X.K, tabs⟩ EX lv da)) (hg : Gl X "isinstance" := by rfl) (hgT : Gl X y := by rfl) (hgU : Gl X z := by rfl)
    (hnT : y ≠ "__name__" := by decide) (hdT : (y == ("__debug__" : Str)) = false := by decide) (hnU : z ≠ "__name__" := by decide) (hdU : (z == ("__debug__" : Str)) = false := by decide)
    (he : starEach [a, .Tuple [.Name y p2, .Name z p3] k p4] X.env = (false, eval a X.env) :: starEach [.Tuple [.Name y p2, .Name z p3] k p4] X.env := by rfl)
    (he2 : starEach [.Tuple [.Name y p2, .Name z p3] k p4] X.env = (false, eval (.Tuple [.Name y p2, .Name z p3] k p4) X.env) :: starEach [] X.env := by rfl)
    (he3 : starEach [.Name y p2, .Name z p3] X.env = (false, eval (.Name y p2) X.env) :: starEach [.Name z p3] X.env := by rfl) (he4 : starEach [.Name z p3] X.env = (false, eval (.Name z p3) X.env) :: starEach [] X.env := by rfl)
    (hpl : (backTo pos (starEach [.Tuple [.Name y p2, .Name z p3] k p4] X.env)).any (·.1) = false := by rfl) :
    PE X (.Call (.Name "isinstance" p) [a, .Tuple [.Name y p2, .Name z p3] k p4] [] pos) (semE ⟨X.K, tabs⟩ EX lv (dIsi2 T U da)) := pd_isi2 hg hm hgT hmT hvT hnT hdT hgU hmU hvU hnU hdU ha he he2 he3 he4 hpl
end
end Dv

namespace Dv
open PySem PySem.Spec PyProof.Rows L2

/-! ### repr -/
mutual
/-- as data that can be shown: the dict without keys too -/
def toR (S : Sto) : Nat → D → Option PyData
  | 0, _ => none
  | _ + 1, .non => some .none
  | _ + 1, .bl b => some (.bool b)
  | _ + 1, .int i => some (.int i)
  | _ + 1, .str x => some (.str x)
  | n + 1, .tup ds => (toRs S n ds).map .tuple
  | n + 1, .ref i => match S[i]? with
    | some (.lst _ ds) => (toRs S n ds).map .list
    | some (.dk []) => some (.dict [])
    | _ => none
def toRs (S : Sto) : Nat → List D → Option (List PyData)
  | _, [] => some []
  | 0, _ :: _ => none
  | n + 1, d :: ds => match toR S n d, toRs S n ds with
    | some p, some ps => some (p :: ps)
    | _, _ => none
end
mutual
def noL : PyData → Bool
  | .list _ => false
  | .tuple xs => noLs xs
  | _ => true
def noLs : List PyData → Bool
  | [] => true
  | x :: xs => noL x && noLs xs
end
/-- it can be shown, and the text is not too long -/
def fitP (p : PyData) : Bool := p.showable && (!p.hasDict || noL p) && p.leavesShort 64 && decide (p.weight ≤ 100000) && decide (p.depth ≤ 60)
def reprD : OpN
  | [d], S => match toR S 1000 d with
    | some p => if fitP p = true then .ok (.str p.shown) S else .no
    | none => .no
  | _, _ => .no
section
variable {X : Cx} {tabs : List Tb} {pins : List (Addr × Obj)} {σ : L2.St} {H : Hp} {s : Shared} {ι : List Addr} {S : Sto}
mutual
theorem toR_reads (I : Inv X pins σ H s) (hs : SRep X.K tabs ι S H) : ∀ (n : Nat) (d : D) (p : PyData) (v : V) (u : Value), toR S n d = some p → Rep X.K ι H d v → RelV v u → ∃ as, Reads s.heap u p as ∧ (noL p = true → sysModules ∉ as)
  | 0, _, _, _, _, e, _, _ => by cases e
  | _ + 1, .non, _, _, _, e, r, q => by
    cases e; cases r; cases q
    exact ⟨_, .none, fun _ => by simp⟩
  | _ + 1, .bl b, _, _, _, e, r, q => by
    cases e; cases r; cases q
    exact ⟨_, .bool b, fun _ => by simp⟩
  | _ + 1, .int i, _, _, _, e, r, q => by
    cases e; cases r
    obtain ⟨t, rfl⟩ := q
    exact ⟨_, .int i t, fun _ => by simp⟩
  | _ + 1, .str x, _, _, _, e, r, q => by
    cases e; cases r
    obtain ⟨t, rfl⟩ := q
    exact ⟨_, .str x t, fun _ => by simp⟩
  | n + 1, .tup ds, p, v, u, e, r, q => by
    obtain ⟨a, vs, rfl, r1, r2⟩ := r
    unfold toR at e
    obtain ⟨ps, e1, rfl⟩ := Option.map_eq_some_iff.mp e
    cases q
    obtain ⟨its, rv, ⟨o, ho, hc, m, hd⟩, _⟩ := I.tuple r1.t
    obtain ⟨as, z1, z2⟩ := toRs_reads I hs n ds ps vs its e1 r2 rv
    exact ⟨as, .tuple ho hc hd (by simpa using z1), fun k => z2 (by simpa [noL] using k)⟩
  | n + 1, .ref i, p, v, u, e, r, q => by
    obtain ⟨a, rfl, r1⟩ := r
    cases q
    unfold toR at e
    split at e
    · rename_i b ds e0
      obtain ⟨ps, e1, rfl⟩ := Option.map_eq_some_iff.mp e
      obtain ⟨a', vs, ha, hq, r2⟩ := hs.list e0
      rw [r1] at ha
      cases ha
      obtain ⟨its, rv, ⟨o, m, ho, hc, _, hd⟩, _⟩ := I.list hq
      obtain ⟨as, z1, z2⟩ := toRs_reads I hs n ds ps vs its e1 r2 rv
      exact ⟨a :: as, .list ho hc hd (by simpa using z1), fun k => by simp [noL] at k⟩
    · rename_i e0
      cases e
      obtain ⟨ws, k1, k2, k3⟩ := hs.obj i _ a e0 r1
      have ew : ws = [] := by
        cases ws with
        | nil => rfl
        | cons _ _ => simp at k2
      subst ew
      obtain ⟨_, hS, vs, kv, o, es, ep, g1, g2, g3, _, g4, _⟩ := I.hok a _ k1
      cases kv
      have ee : es = #[] := by
        cases q : es.toList with
        | nil => simpa using q
        | cons e0 r0 => rw [q] at g4; cases g4
      subst ee
      refine ⟨_, .dict (kvs := []) g1 g2.1 g3 .nil .nil, fun _ => ?_⟩
      have : a ≠ sysModules := by simpa using hS
      simpa using this.symm
    · cases e
theorem toRs_reads (I : Inv X pins σ H s) (hs : SRep X.K tabs ι S H) : ∀ (n : Nat) (ds : List D) (ps : List PyData) (vs : List V) (us : List Value), toRs S n ds = some ps → RepL X.K ι H ds vs → Vals vs us → ∃ as, ReadsAll s.heap us ps as ∧ (noLs ps = true → sysModules ∉ as)
  | n, [], ps, vs, us, e, r, q => by
    have r : vs = [] := r
    subst r
    cases q
    have e2 : ps = [] := by cases n <;> (cases e; rfl)
    subst e2
    exact ⟨_, .nil, fun _ => by simp⟩
  | 0, _ :: _, _, _, _, e, _, _ => by cases e
  | n + 1, d :: ds, ps, vs, us, e, r, q => by
    obtain ⟨v, rr, rfl, q1, q2⟩ := r
    unfold toRs at e
    split at e
    · rename_i p qs e1 e2
      cases e
      cases q with
      | cons w1 w2 =>
        obtain ⟨as, z1, z2⟩ := toR_reads I hs n d p v _ e1 q1 w1
        obtain ⟨bs, y1, y2⟩ := toRs_reads I hs n ds qs rr _ e2 q2 w2
        refine ⟨_, .cons z1 y1, fun k => ?_⟩
        simp only [noLs, Bool.and_eq_true] at k
        rw [List.mem_append]
        rintro (c | c)
        · exact z2 k.1 c
        · exact y2 k.2 c
    · cases e
end
end
section
variable {X : Cx} {tabs : List Tb}
end
end Dv

namespace Dv
open PySem PySem.Spec PyProof.Rows L2 Gr

/-! ### dicts with ints and texts as keys; in -/
def kyD : D → Option Key
  | .int i => some (.inl i)
  | .str x => some (.inr x)
  | _ => none
def valK (kvs : List (Key × D)) (k : Key) : Option D := (kvs.find? fun q => decide (q.1 = k)).map (·.2)
def setK (kvs : List (Key × D)) (k : Key) (v : D) : List (Key × D) :=
  if (kvs.any fun q => decide (q.1 = k)) = true then kvs.map (fun q => if q.1 = k then (q.1, v) else q) else kvs ++ [(k, v)]
def dkD (d : D) (S : Sto) : Option (List (Key × D)) := match d with
  | .ref i => match S[i]? with
    | some (.dk kvs) => some kvs
    | _ => none
  | _ => none
def getKD : Op2 := fun d k S => match dkD d S, kyD k with
  | some kvs, some q => match valK kvs q with
    | some v => .ok v S
    | none => .no
  | _, _ => .no
/-- d[k] of anything -/
def ixA : Op2 := fun d k S => if (dkD d S).isSome = true then getKD d k S else ixD d k S
/-- x in y -/
def inB (x y : D) (S : Sto) : Option Bool := match dkD y S with
  | some kvs => (kyD x).map fun k => (valK kvs k).isSome
  | none => match toP S 1000 x, toP S 1000 y with
    | some d, some (.list ds) => if SeqAt.shaped d = true ∧ SeqAt.shaped (.list ds) = true then some (ds.any fun z => PyData.eqv z d) else none
    | some d, some (.tuple ds) => if SeqAt.shaped d = true ∧ SeqAt.shaped (.tuple ds) = true then some (ds.any fun z => PyData.eqv z d) else none
    | _, _ => none
def inD : Op2 := fun x y S => match inB x y S with
  | some b => .ok (.bl b) S
  | none => .no
def ninD : Op2 := fun x y S => match inB x y S with
  | some b => .ok (.bl (!b)) S
  | none => .no
def intD : OpN
  | [.int i], S => .ok (.int i) S
  | [.bl b], S => .ok (.int (if b then 1 else 0)) S
  | _, _ => .no
section
variable {K : PySem.W.Frag} {ι : List Addr} {H : Hp}
theorem key_v {d : D} {k : Key} {v : V} (e : kyD d = some k) (r : Rep K ι H d v) : v = kV k := by
  cases d <;> first | (cases e; done) | skip
  · cases e; cases r; rfl
  · cases e; cases r; rfl
theorem val_rep {k : Key} : ∀ {kvs : List (Key × D)} {ws : List (Key × V)}, kvs.map (·.1) = ws.map (·.1) → RepL K ι H (kvs.map (·.2)) (ws.map (·.2)) →
    (∀ d, valK kvs k = some d → ∃ v, valV ws k = some v ∧ Rep K ι H d v) ∧ (valK kvs k = none → valV ws k = none)
  | [], [], _, _ => ⟨(fun _ e => by cases e), fun _ => rfl⟩
  | [], _ :: _, e, _ => by simp at e
  | _ :: _, [], e, _ => by simp at e
  | (k1, d1) :: kvs, (k2, v2) :: ws, e, r => by
    simp only [List.map_cons, List.cons.injEq] at e
    obtain ⟨rfl, e⟩ := e
    obtain ⟨v, rr, ev, r1, r2⟩ := r
    cases ev
    obtain ⟨h1, h2⟩ := val_rep (k := k) e r2
    by_cases c : k1 = k
    · simp [valK, valV, c, r1]
    · have z1 : valK ((k1, d1) :: kvs) k = valK kvs k := by simp [valK, c]
      have z2 : valV ((k1, v2) :: ws) k = valV ws k := by simp [valV, c]
      rw [z1, z2]
      exact ⟨h1, h2⟩
theorem dk_at {tabs : List Tb} {S : Sto} {d : D} {kvs : List (Key × D)} {v : V} (hs : SRep K tabs ι S H) (e : dkD d S = some kvs) (r : Rep K ι H d v) :
    ∃ i a ws, d = .ref i ∧ v = .ref a ∧ ι[i]? = some a ∧ S[i]? = some (.dk kvs) ∧ H a = some (.dK ws) ∧ kvs.map (·.1) = ws.map (·.1) ∧ RepL K ι H (kvs.map (·.2)) (ws.map (·.2)) := by
  unfold dkD at e
  split at e
  · rename_i i
    split at e
    · rename_i k0 e0
      cases e
      obtain ⟨a, rfl, q⟩ := r
      obtain ⟨ws, z1, z2, z3⟩ := hs.obj i _ a e0 q
      exact ⟨i, a, ws, rfl, rfl, q, e0, z1, z2, z3⟩
    · cases e
  · cases e
end
/-- either way -/
theorem PE.or {X : Cx} {e : Expr} {t1 t2 : TE} (h1 : PE X e t1) (h2 : PE X e t2) : PE X e (fun σ H Q => t1 σ H Q ∨ t2 σ H Q) := ⟨fun pins s σ H Q I q => q.elim (h1.run pins s σ H Q I) (h2.run pins s σ H Q I)⟩
section
variable {X : Cx} {EX : EXT} {lv : Lv} {tabs : List Tb} {a b : Expr} {da db : Den} {pos : Pos}
theorem inB_or {ι : List Addr} {H : Hp} {S : Sto} {x y : D} {bo : Bool} {v u : V} (hs : SRep X.K tabs ι S H) (e : inB x y S = some bo) (r1 : Rep X.K ι H x v) (r2 : Rep X.K ι H y u) :
    (∃ p o, u = .ref p ∧ DGet H p v o ∧ o.isSome = bo) ∨ ∃ d ds, Dp X.K H v d ∧ SeqAt.shaped d = true ∧ (ds.any fun z => PyData.eqv z d) = bo ∧ ((Dp X.K H u (.list ds) ∧ SeqAt.shaped (.list ds) = true) ∨ (Dp X.K H u (.tuple ds) ∧ SeqAt.shaped (.tuple ds) = true)) := by
  unfold inB at e
  split at e
  · rename_i kvs z1
    obtain ⟨k, z2, z3⟩ := Option.map_eq_some_iff.mp e
    obtain ⟨i, p, ws, rfl, rfl, q1, q2, q3, q4, q5⟩ := dk_at hs z1 r2
    obtain ⟨w1, w2⟩ := val_rep (k := k) q4 q5
    refine .inl ⟨p, _, rfl, .inl ⟨ws, k, .inl q3, key_v z2 r1, rfl⟩, ?_⟩
    rw [← z3]
    cases c : valK kvs k with
    | none => rw [w2 c]; rfl
    | some d =>
      obtain ⟨v2, g1, _⟩ := w1 d c
      rw [g1]; rfl
  · split at e
    · rename_i d ds z1 z2
      split at e
      · rename_i hc
        cases e
        exact .inr ⟨d, ds, toP_dp hs _ _ _ _ z1 r1, hc.1, rfl, .inl ⟨toP_dp hs _ _ _ _ z2 r2, hc.2⟩⟩
      · cases e
    · rename_i d ds z1 z2
      split at e
      · rename_i hc
        cases e
        exact .inr ⟨d, ds, toP_dp hs _ _ _ _ z1 r1, hc.1, rfl, .inr ⟨toP_dp hs _ _ _ _ z2 r2, hc.2⟩⟩
      · cases e
    · cases e
theorem opd_in (hu : X.A.units + 66 < cLine) : OpR X (compareOp .In) (rOp ⟨X.K, tabs⟩ inD) := by
  rintro pins s σ H x y v u Q I rx ry ⟨S, ι, d1, d2, hs, r1, r2, hw⟩
  unfold inD at hw
  split at hw
  · rename_i bo e
    rcases inB_or hs e r1 r2 with ⟨p, o, rfl, g, eb⟩ | ⟨d, ds, z1, z2, z3, ⟨z4, z5⟩ | ⟨z4, z5⟩⟩
    · cases ry
      subst eb
      exact d_in (by omega) I g rx fun s3 I3 => ⟨.bl o.isSome, H, I3, rfl, PV.now hw hs rfl⟩
    · subst z3
      exact op_inD (by omega) pins s σ H x y v u Q I rx ry ⟨d, ds, z1, z4, z2, z5, PV.now hw hs rfl⟩
    · subst z3
      obtain ⟨as, q1⟩ := Dp.reads I d x v z1 rx
      obtain ⟨bs, q2⟩ := Dp.reads I (.tuple ds) y u z4 ry
      exact SeqAt.in_tuple_reads q2 q1 (SeqAt.canLay_of_shaped z5) (SeqAt.canLay_of_shaped z2) (room_in_shaped z2 (by omega)) ⟨.bl _, H, I, rfl, PV.now hw hs rfl⟩
  · exact hw.elim
theorem opd_nin (hu : X.A.units + 66 < cLine) : OpR X (compareOp .NotIn) (rOp ⟨X.K, tabs⟩ ninD) := by
  rintro pins s σ H x y v u Q I rx ry ⟨S, ι, d1, d2, hs, r1, r2, hw⟩
  unfold ninD at hw
  split at hw
  · rename_i bo e
    rcases inB_or hs e r1 r2 with ⟨p, o, rfl, g, eb⟩ | ⟨d, ds, z1, z2, z3, ⟨z4, z5⟩ | ⟨z4, z5⟩⟩
    · cases ry
      subst eb
      exact d_notIn (by omega) I g rx fun s3 I3 => ⟨.bl (!o.isSome), H, I3, rfl, PV.now hw hs rfl⟩
    · subst z3
      exact op_notInD (by omega) pins s σ H x y v u Q I rx ry ⟨d, ds, z1, z4, z2, z5, PV.now hw hs rfl⟩
    · subst z3
      obtain ⟨as, q1⟩ := Dp.reads I d x v z1 rx
      obtain ⟨bs, q2⟩ := Dp.reads I (.tuple ds) y u z4 ry
      exact SeqAt.notIn_tuple_reads q2 q1 (SeqAt.canLay_of_shaped z5) (SeqAt.canLay_of_shaped z2) (room_in_shaped z2 (by omega)) ⟨.bl _, H, I, rfl, PV.now hw hs rfl⟩
  · exact hw.elim
theorem crd_int : CallR X (.type "int") (rCl ⟨X.K, tabs⟩ intD) := by
  rintro pins s σ H xs us Q I rx ⟨S, ι, ds, hs, r, hw⟩
  unfold intD at hw
  split at hw
  · rename_i i
    obtain ⟨v, rfl, q⟩ := repl1 r
    cases q
    exact call_int1 pins s σ H _ us Q I rx (.inl ⟨i, rfl, PV.now hw hs rfl⟩)
  · rename_i b
    obtain ⟨v, rfl, q⟩ := repl1 r
    cases q
    exact call_int1 pins s σ H _ us Q I rx (.inr ⟨b, rfl, PV.now hw hs rfl⟩)
  · exact hw.elim
end
/-! ### d[k] = v -/
def putKD (o i v : D) (S : Sto) : R Unit := match o, kyD i with
  | .ref r, some k => match S[r]? with
    | some (.dk kvs) => if kvs.length ≤ mx then .ok () (S.set r (.dk (setK kvs k v))) else .no
    | _ => .no
  | _, _ => .no
def setA (o i v : D) (S : Sto) : R Unit := if (dkD o S).isSome = true then putKD o i v S else setD o i v S
def sSubW (f : D → D → D → Sto → R Unit) (o i e : Den) : DenS := fun lv ρ S => (e lv ρ S).bindS ρ fun v S1 => (o lv ρ S1).bindS ρ fun x S2 => (i lv ρ S2).bindS ρ fun y S3 => (f x y v S3).bindS ρ fun _ S4 => .ok (.nx ρ) S4
theorem PS.or {X : Cx} {e : Stmt} {t1 t2 : TS} (h1 : PS X e t1) (h2 : PS X e t2) : PS X e (fun D σ H => t1 D σ H ∨ t2 D σ H) := ⟨fun pins s σ H D I q => q.elim (h1.run pins s σ H D I) (h2.run pins s σ H D I)⟩
section
variable {X : Cx} {EX : EXT} {lv : Lv} {tabs : List Tb} {e o i : Expr} {de dox di : Den} {pos p2 : Pos}
end
end Dv

namespace Dv
open PySem PySem.Spec PyProof.Rows L2 Gr
/-! ### {k: v, ..} -/
abbrev DenP := Lv → Env → Sto → R (List (Key × D))
def pNil : DenP := fun _ _ S => .ok [] S
def pCons (k v : Den) (r : DenP) : DenP := fun lv ρ S => (k lv ρ S).bind fun x S1 => (v lv ρ S1).bind fun y S2 => match kyD x with
  | some q => (r lv ρ S2).bind fun m S3 => .ok ((q, y) :: m) S3
  | none => .no
def mergeD (kvs more : List (Key × D)) : List (Key × D) := more.foldl (fun acc q => setK acc q.1 q.2) kvs
def dDisp (p : DenP) : Den := fun lv ρ S => (p lv ρ (S ++ [.dk []])).bind fun m S1 => match S1[S.length]? with
  | some (.dk []) => if m.length ≤ 15 then .ok (.ref S.length) (S1.set S.length (.dk (mergeD [] m))) else .no
  | _ => .no
def PM (w : Wn) (ι : List Addr) (H : Hp) (F : List (V × V) → Hp → Prop) : List (Key × D) → Sto → Prop := fun m S' => ∀ (ws : List (Key × V)) H' ι', Le ι H ι' H' → SRep w.K w.tabs ι' S' H' → m.map (·.1) = ws.map (·.1) → RepL w.K ι' H' (m.map (·.2)) (ws.map (·.2)) → F (ws.map fun q => (kV q.1, q.2)) H'
theorem PM.mono {w : Wn} {ι ι1 : List Addr} {H H1 : Hp} {F : List (V × V) → Hp → Prop} {m : List (Key × D)} {S : Sto} (l : Le ι H ι1 H1) (h : PM w ι H F m S) : PM w ι1 H1 F m S := fun ws H' ι' l' => h ws H' ι' (l.trans l')
section
variable {X : Cx} {EX : EXT} {lv : Lv} {w : Wn} {tabs : List Tb} {pos : Pos}
/-! ### names -/
end
section
variable {X : Cx} {EX : EXT} {lv : Lv} {tabs : List Tb} {e : Expr} {es : List Expr} {ra : DenA} {p pos : Pos}
theorem xintc (hm : X.mg "int" = none) (ha : PA X (e :: es) (semA ⟨X.K, tabs⟩ EX lv ra)) (hg : Gl X "int" := by rfl) (he : starEach (e :: es) X.env = (false, eval e X.env) :: starEach es X.env := by rfl) (hpl : (backTo pos (starEach es X.env)).any (·.1) = false := by rfl) :
    PE X (.Call (.Name "int" p) (e :: es) [] pos) (semE ⟨X.K, tabs⟩ EX lv (dCl intD ra)) := pd_callTy crd_int hg hm bt_int ha (by decide) (by decide) he hpl
theorem units66 {k : Nat} (hr : RoomG k X.A) : X.A.units + 66 < cLine := by have := hr.un; omega
end
end Dv

namespace Dv
open PySem PySem.Spec PyProof.Rows L2 Gr
/-! ### dicts whose keys are tuples -/
def nkD : D → Option Gk.NK
  | .non => some none
  | .int i => some (some i)
  | .bl b => some (some (if b = true then 1 else 0))
  | _ => none
def nksD : List D → Option (List Gk.NK)
  | [] => some []
  | d :: ds => match nkD d, nksD ds with
    | some k, some ks => some (k :: ks)
    | _, _ => none
abbrev DtL := List (List Gk.NK × D)
def valZ (kvs : DtL) (k : List Gk.NK) : Option D := (kvs.find? fun x => decide (x.1 = k)).map (·.2)
section
variable {K : PySem.W.Frag} {ι : List Addr} {H : Hp}
end
def dtD (d : D) (S : Sto) : Option DtL := match d with
  | .ref i => match S[i]? with
    | some (.dt kvs) => some kvs
    | _ => none
  | _ => none
def tksD : D → Option (List Gk.NK)
  | .tup ds => nksD ds
  | _ => none
/-- o[i] of such a dict -/
def getZ : Op2 := fun d k S => match dtD d S, tksD k with
  | some kvs, some ks => match valZ kvs ks with
    | some v => .ok v S
    | none => .no
  | _, _ => .no
def ixZ : Op2 := fun d k S => if (dtD d S).isSome = true then getZ d k S else ixD d k S
def dDt0 : Den := fun _ _ S => .ok (.ref S.length) (S ++ [.dt []])
section
variable {K : PySem.W.Frag} {ι : List Addr} {H : Hp}
theorem dt_at {tabs : List Tb} {S : Sto} {d : D} {kvs : DtL} {v : V} (hs : SRep K tabs ι S H) (e : dtD d S = some kvs) (r : Rep K ι H d v) :
    ∃ i a, ∃ ws : List Gk.Ent, d = .ref i ∧ v = .ref a ∧ ι[i]? = some a ∧ S[i]? = some (.dt kvs) ∧ H a = some (Gk.dtO a ws) ∧ kvs.map (·.1) = ws.map (·.1) ∧ RepL K ι H (kvs.map (·.2)) (ws.map (·.2.2)) ∧ ∀ x ∈ ws, ∃ vs, SqN K H x.2.1 vs ∧ Gk.KVs x.1 vs := by
  unfold dtD at e
  split at e
  · rename_i i
    split at e
    · rename_i k0 e0
      cases e
      obtain ⟨a, rfl, q⟩ := r
      obtain ⟨ws, z1, z2, z3, z4⟩ := hs.obj i _ a e0 q
      exact ⟨i, a, ws, rfl, rfl, q, e0, z1, z2, z3, z4⟩
    · cases e
  · cases e
end
section
variable {X : Cx} {EX : EXT} {lv : Lv} {tabs : List Tb} {a b : Expr} {da db : Den} {pos : Pos}
end
section
variable {X : Cx} {EX : EXT} {lv : Lv} {tabs : List Tb} {e o i : Expr} {de dox di : Den} {pos p2 : Pos}
end
/-! ### reckoning with them -/
section
variable {S : Sto} {lv : Lv} {ρ : Env}
@[simp] theorem ev_dt0 : dDt0 lv ρ S = .ok (.ref S.length) (S ++ [.dt []]) := id rfl
def ixzO : Option O → D → D → Sto → R D
  | some (.dt kvs), _, k, S => match tksD k with
    | some ks => match valZ kvs ks with
      | some v => .ok v S
      | none => .no
    | none => .no
  | _, d, k, S => ixD d k S
theorem ixZ_no {d k : D} (h : dtD d S = none) : ixZ d k S = ixD d k S := by
  unfold ixZ
  rw [h]; rfl
@[simp] theorem ixZ_t {xs : List D} {k : D} : ixZ (.tup xs) k S = ixD (.tup xs) k S := id rfl
theorem ixZ_l {i : Nat} {w : Bool} {xs : List D} {k : D} (h : S[i]? = some (.lst w xs)) : ixZ (.ref i) k S = ixD (.ref i) k S := ixZ_no (by unfold dtD; simp only [h])
end
end Dv

namespace Dv
open PySem PySem.Spec PyProof.Rows L2 Gr
/-! ### dicts whose keys are tuples of any depth -/
mutual
theorem nky_bare : ∀ (d : D) (k : NestedKey), nky d = some k → Gn.bare k = true
  | .non, k, h => by unfold nky at h; cases h; rfl
  | .bl b, k, h => by unfold nky at h; cases h; rfl
  | .int i, k, h => by unfold nky at h; cases h; rfl
  | .str x, k, h => by unfold nky at h; cases h
  | .ref i, k, h => by unfold nky at h; cases h
  | .tup ds, k, h => by
    unfold nky at h
    obtain ⟨ks, e, rfl⟩ := Option.map_eq_some_iff.mp h
    unfold Gn.bare
    exact nkys_bare ds ks e
theorem nkys_bare : ∀ (ds : List D) (ks : List NestedKey), nkys ds = some ks → Gn.bares ks = true
  | [], ks, h => by unfold nkys at h; cases h; rfl
  | d :: ds, ks, h => by
    unfold nkys at h
    split at h
    · rename_i k ks' e1 e2
      cases h
      unfold Gn.bares
      rw [nky_bare d k e1, nkys_bare ds ks' e2]; rfl
    · cases h
end
mutual
theorem nky_rep {K : PySem.W.Frag} {ι : List Addr} {H : Hp} : ∀ (d : D) (v : V) (k : NestedKey), nky d = some k → Rep K ι H d v → Gn.NV K H k v
  | .non, v, k, h, r => by unfold nky at h; cases h; exact r
  | .bl b, v, k, h, r => by unfold nky at h; cases h; cases (show v = .bl _ from r); unfold Gn.NV; rfl
  | .int i, v, k, h, r => by unfold nky at h; cases h; cases (show v = .int _ from r); unfold Gn.NV; rfl
  | .str x, v, k, h, r => by unfold nky at h; cases h
  | .ref i, v, k, h, r => by unfold nky at h; cases h
  | .tup ds, v, k, h, r => by
    unfold nky at h
    obtain ⟨ks, e, rfl⟩ := Option.map_eq_some_iff.mp h
    obtain ⟨a, vs, rfl, q, l⟩ := r
    unfold Gn.NV
    exact ⟨a, vs, rfl, q.t, nkys_rep ds vs ks e l⟩
theorem nkys_rep {K : PySem.W.Frag} {ι : List Addr} {H : Hp} : ∀ (ds : List D) (vs : List V) (ks : List NestedKey), nkys ds = some ks → RepL K ι H ds vs → Gn.NVs K H ks vs
  | [], vs, ks, h, r => by unfold nkys at h; cases h; exact r
  | d :: ds, vs, ks, h, r => by
    obtain ⟨v, us, rfl, q, r2⟩ := r
    unfold nkys at h
    split at h
    · rename_i k ks' e1 e2
      cases h
      unfold Gn.NVs
      exact ⟨v, us, rfl, nky_rep d v k e1 q, nkys_rep ds us ks' e2 r2⟩
    · cases h
end
/-- a thing as a key: a tuple, not too deep -/
def tkD : D → Option NestedKey
  | .tup ds => match nky (.tup ds) with
    | some k => if k.depth ≤ 8 then some k else none
    | none => none
  | _ => none
theorem tk_rep {K : PySem.W.Frag} {ι : List Addr} {H : Hp} {d : D} {v : V} {k : NestedKey} (e : tkD d = some k) (r : Rep K ι H d v) : nky d = some k ∧ ∃ b, v = .ref b ∧ Gn.NV K H k (.ref b) ∧ Gn.Good k := by
  cases d <;> first | (cases e; done) | skip
  rename_i ds
  unfold tkD at e
  dsimp only at e
  cases e1 : nky (.tup ds) with
  | none => rw [e1] at e; cases e
  | some k' =>
    rw [e1] at e
    by_cases hd : k'.depth ≤ 8
    · have e : (if k'.depth ≤ 8 then some k' else none) = some k := e
      rw [if_pos hd] at e
      obtain rfl := Option.some.inj e
      obtain ⟨b, vs, rfl, z⟩ := id r
      exact ⟨rfl, b, rfl, nky_rep _ _ _ e1 r, nky_bare _ _ e1, hd⟩
    · have e : (if k'.depth ≤ 8 then some k' else none) = some k := e
      rw [if_neg hd] at e
      cases e
abbrev DnL := List (D × D)
def dnD (d : D) (S : Sto) : Option DnL := match d with
  | .ref i => match S[i]? with
    | some (.dn kvs) => some kvs
    | _ => none
  | _ => none
section
variable {K : PySem.W.Frag} {ι : List Addr} {H : Hp}
theorem keys_of {ws : List Gn.Ent} : ∀ {kvs : DnL}, kvs.map (fun x => nky x.1) = ws.map (fun x => some x.1) → RepL K ι H (kvs.map (·.1)) (ws.map fun x => .ref x.2.1) → (∀ x ∈ ws, Gn.Good x.1) → Gn.Keys K H ws := by
  induction ws with
  | nil => exact fun _ _ _ x hx => nomatch hx
  | cons w ws ih =>
    intro kvs e r g x hx
    cases kvs with
    | nil => simp at e
    | cons y kvs =>
      simp only [List.map_cons, List.cons.injEq] at e
      obtain ⟨u, us, e2, q, r2⟩ := r
      simp only [List.map_cons, List.cons.injEq] at e2
      obtain ⟨rfl, rfl⟩ := e2
      rcases List.mem_cons.mp hx with rfl | hx
      · exact ⟨nky_rep _ _ _ e.1 q, g _ List.mem_cons_self⟩
      · exact ih e.2 r2 (fun z hz => g z (List.mem_cons_of_mem _ hz)) x hx
theorem dn_at {tabs : List Tb} {S : Sto} {d : D} {kvs : DnL} {v : V} (hs : SRep K tabs ι S H) (e : dnD d S = some kvs) (r : Rep K ι H d v) :
    ∃ i a, ∃ ws : List Gn.Ent, d = .ref i ∧ v = .ref a ∧ ι[i]? = some a ∧ S[i]? = some (.dn kvs) ∧ H a = some (Gn.dnO a ws) ∧ kvs.map (fun x => nky x.1) = ws.map (fun x => some x.1) ∧ RepL K ι H (kvs.map (·.1)) (ws.map fun x => .ref x.2.1) ∧ RepL K ι H (kvs.map (·.2)) (ws.map (·.2.2)) ∧ Gn.Keys K H ws ∧ ∀ x ∈ ws, Gn.Good x.1 := by
  unfold dnD at e
  split at e
  · rename_i i
    split at e
    · rename_i k0 e0
      cases e
      obtain ⟨a, rfl, q⟩ := r
      obtain ⟨ws, z1, z2, z3, z4, z5⟩ := hs.obj i _ a e0 q
      exact ⟨i, a, ws, rfl, rfl, q, e0, z1, z2, z3, z4, keys_of z2 z3 z5, z5⟩
    · cases e
  · cases e
end
section
variable {X : Cx} {EX : EXT} {lv : Lv} {tabs : List Tb} {a b : Expr} {da db : Den} {pos : Pos}
end
section
variable {X : Cx} {EX : EXT} {lv : Lv} {tabs : List Tb} {e o i : Expr} {de dox di : Den} {pos p2 : Pos}
end
end Dv

namespace Dv
open PySem PySem.Spec PyProof.Rows L2 Gr
def zipS (x y : D) (S : Sto) : Option Src := match x, y with
  | .tup xs, .tup ys => some (.zipT xs ys)
  | .ref i, .ref j => match S[i]?, S[j]? with
    | some (.lst w xs), some (.lst v ys) => some (.zipL i j w v xs ys)
    | _, _ => none
  | .tup xs, .ref j => match S[j]? with
    | some (.lst v ys) => some (.zTL j v xs ys)
    | _ => none
  | .ref i, .tup ys => match S[i]? with
    | some (.lst w xs) => some (.zLT i w xs ys)
    | _ => none
  | _, _ => none
def srcR : Option Src → Sto → R Src
  | some s, S => .ok s S
  | none, _ => .no
def ziK : List D → Sto → R Src := fun xs S => match xs with
  | [x, y] => srcR (zipS x y S) S
  | _ => .no
def iZip2 (a : DenA) : DenI := fun lv ρ S => (a lv ρ S).bind ziK
def enuS (x : D) (S : Sto) : Option Src := match x with
  | .tup xs => some (.enuT xs)
  | .ref i => match S[i]? with
    | some (.lst w xs) => some (.enu i w xs)
    | _ => none
  | _ => none
def enK : List D → Sto → R Src := fun xs S => match xs with
  | [x] => srcR (enuS x S) S
  | _ => .no
def iEnu (a : DenA) : DenI := fun lv ρ S => (a lv ρ S).bind enK
section
variable {X : Cx} {EX : EXT} {lv : Lv} {tabs : List Tb} {e e2 : Expr} {ra : DenA} {p pos tpos : Pos} {elts : List Expr} {kk : Nat}
end
section
variable {X : Cx} {w : Wn} {EX : EXT} {lv : Lv} {a b : Expr} {da db : Den} {pos : Pos}
theorem xcmpI {op : CmpOp} {o : Op2} (ho : OpR X (compareOp op) (rOp w o)) (ha : PE X a (semE w EX lv da)) (hb : PE X b (semE w EX lv db)) (hm : behindInMarks op b = false := by rfl) : PE X (.Compare a [op] [b] pos) (semE w EX lv (dOp o da db)) := pd_cmp ho ha hb hm
theorem ycmpI {op : CmpOp} {o : Op2} (ho : OpR X (compareOp op) (rOp w o)) (ha : PE X a (semE w EX lv da)) (hb : PE X b (semE w EX lv db)) (hm : behindInMarks op b = false := by rfl) : PT X (.Compare a [op] [b] pos) (semT w EX lv (dBl (dOp o da db))) := td_cmp ho ha hb hm
end
end Dv

namespace Gx
open PySem PySem.Spec PyProof.Rows L2 GenW Gr
section
variable {X : Cx} {pins : List (Addr × Obj)} {σ : L2.St} {s : Shared}
end
end Gx
namespace Dv
open PySem PySem.Spec PyProof.Rows L2 Gr
def tgK : List D → Sto → R D := fun ys S => if ys.length ≤ mx then .ok (.tup ys) S else .no
noncomputable def dTg (di : DenI) (t : Tg) (cond : DenT) (elt : Den) (vs : List Nat) : Den := fun lv ρ S => (di lv ρ S).bind fun src S1 => (glGo src.chk t (cond lv.dn) (elt lv.dn) (wipeE ρ vs) src.items [] S1).bind tgK
section
variable {X : Cx} {EX : EXT} {lv : Lv} {elt tg iter : Expr} {ifs : List Expr} {scope : Scope} {own : List (Str × Nat)} {p pos : Pos} {di : DenI} {t : Tg} {tc : DenT} {de : Den}
end
/-! ### bits, op= -/
def iaddD : Op2
  | .int i, .int j, S => .ok (.int (i + j)) S
  | _, _, _ => .no
section
variable {X : Cx} {tabs : List Tb}
def imulD : Op2
  | .int i, .int j, S => if (-18446744073709551616 < i ∧ i < 18446744073709551616) ∨ (-18446744073709551616 < j ∧ j < 18446744073709551616) then .ok (.int (i * j)) S else .no
  | _, _, _ => .no
end
section
variable {X : Cx} {w : Wn} {EX : EXT} {lv : Lv} {elt tg iter : Expr} {ifs : List Expr} {scope : Scope} {pos spos py : Pos} {di : DenI} {t : Tg} {tc : DenT} {de : Den} {y : Str}
end
end Dv

namespace Dv
open PySem PySem.Spec PyProof.Rows L2 Gr
section
variable {X : Cx} {pins : List (Addr × Obj)} {σ : L2.St} {H : Hp} {s : Shared}
end
/-! ### the keys, by data -/
def insI (a : Int) : List Int → List Int
  | [] => [a]
  | b :: r => if a ≤ b then a :: b :: r else b :: insI a r
def srtI : List Int → List Int
  | [] => []
  | a :: r => insI a (srtI r)
def keysI : List (Key × D) → Option (List Int)
  | [] => some []
  | (.inl i, _) :: r => (keysI r).map (i :: ·)
  | _ => none
def skR : Option (List Int) → Sto → R D
  | some ks, S => if ks.length < 64 then .ok (.ref S.length) (S ++ [.lst true ((srtI ks).map D.int)]) else .no
  | none, _ => .no
def skK : D → Sto → R D := fun x S => skR ((dkD x S).bind keysI) S
def dSK (o : Den) : Den := fun lv ρ S => (o lv ρ S).bind skK
end Dv

namespace Dv
open PySem PySem.Spec PyProof.Rows L2 Gr
section
variable {X : Cx} {EX : EXT} {lv : Lv} {tabs : List Tb} {a : Expr} {da : Den} {p p2 pos pos2 : Pos}
end
end Dv

namespace Dv
open PySem PySem.Spec PyProof.Rows L2 Gr
/-! ### d.get(k) -/
def gtK2 (x : D) : D → Sto → R D := fun y S => match dkD x S, kyD y with
  | some kvs, some q => .ok ((valK kvs q).getD .non) S
  | _, _ => .no
def gtK1 (k : Den) (lv : Lv) (ρ : Env) : D → Sto → R D := fun x S => if (dkD x S).isSome = true then (k lv ρ S).bind (gtK2 x) else .no
def dGet (o k : Den) : Den := fun lv ρ S => (o lv ρ S).bind (gtK1 k lv ρ)
section
variable {X : Cx} {EX : EXT} {lv : Lv} {tabs : List Tb} {o e : Expr} {da db : Den} {apos cpos : Pos}
end
/-! ### len(set(l)), no number twice -/
def intsD : List D → Option (List Int)
  | [] => some []
  | .int i :: r => (intsD r).map (i :: ·)
  | _ => none
theorem intsD_of : ∀ (ns : List Int), intsD (ns.map D.int) = some ns
  | [] => rfl
  | n :: ns => by rw [List.map_cons]; unfold intsD; rw [intsD_of ns]; rfl
def lsN : Option (List Int) → Sto → R D
  | some ns, S => if ns.Nodup ∧ ns.length ≤ 4000 then .ok (.int (ns.length : Nat)) S else .no
  | none, _ => .no
def lsO : Option O → Sto → R D
  | some (.lst _ xs), S => lsN (intsD xs) S
  | _, _ => .no
def lsK : D → Sto → R D := fun x S => match x with
  | .ref i => lsO S[i]? S
  | _ => .no
def dLS (a : Den) : Den := fun lv ρ S => (a lv ρ S).bind lsK
section
variable {X : Cx} {EX : EXT} {lv : Lv} {tabs : List Tb} {a : Expr} {da : Den} {p p2 q pos : Pos}
end
end Dv

namespace Dv
open PySem PySem.Spec PyProof.Rows L2 Gr
section
variable {X : Cx} {tabs : List Tb} {EX : EXT} {lv : Lv} {ra : DenA} {e : Expr} {es : List Expr} {p pos : Pos}
end
end Dv

namespace Dv
open PySem PySem.Spec PyProof.Rows L2 Gr
/-! ### sum of ints, in a tuple or in a list -/
def sumR : Option (List Int) → Sto → R D
  | some ns, S => .ok (.int ns.sum) S
  | none, _ => .no
def sumD : OpN
  | [d], S => sumR ((itemsD d S).bind intsD) S
  | _, _ => .no
section
variable {X : Cx} {tabs : List Tb} {EX : EXT} {lv : Lv} {ra : DenA} {e : Expr} {es : List Expr} {p pos : Pos}
end
@[simp] theorem sum_t2 {S : Sto} {i j : Int} : sumD [.tup [.int i, .int j]] S = .ok (.int (i + j)) S := by
  unfold sumD itemsD
  simp only [Option.bind_some, intsD, Option.map_some, sumR]
  simp [List.sum]
/-! ### d.setdefault(k, v) -/
def sdO (i : Nat) (z : D) (k : Key) : Option O → Sto → R D
  | some (.dk kvs), S => if kvs.length ≤ mx then (match valK kvs k with
    | some v => .ok v S
    | none => .ok z (S.set i (.dk (setK kvs k z)))) else .no
  | _, _ => .no
def sdK3 (x y : D) : D → Sto → R D := fun z S => match x, kyD y with
  | .ref i, some k => sdO i z k S[i]? S
  | _, _ => .no
def sdK2 (x : D) (v : Den) (lv : Lv) (ρ : Env) : D → Sto → R D := fun y S => (v lv ρ S).bind (sdK3 x y)
def sdK1 (k v : Den) (lv : Lv) (ρ : Env) : D → Sto → R D := fun x S => if (dkD x S).isSome = true then (k lv ρ S).bind (sdK2 x v lv ρ) else .no
def dSd (o k v : Den) : Den := fun lv ρ S => (o lv ρ S).bind (sdK1 k v lv ρ)
section
variable {X : Cx} {EX : EXT} {lv : Lv} {tabs : List Tb} {o e f : Expr} {da db dc : Den} {apos cpos : Pos}
end
section
variable {lv : Lv} {ρ : Env} {S : Sto} {a k v : Den} {x y z : D}
@[simp] theorem ev_sd : dSd a k v lv ρ S = (a lv ρ S).bind (sdK1 k v lv ρ) := id rfl
@[simp] theorem sdK1_ap : sdK1 k v lv ρ x S = if (dkD x S).isSome = true then (k lv ρ S).bind (sdK2 x v lv ρ) else .no := id rfl
@[simp] theorem sdK2_ap : sdK2 x v lv ρ y S = (v lv ρ S).bind (sdK3 x y) := id rfl
@[simp] theorem sdK3_i {i : Nat} {j : Int} : sdK3 (.ref i) (.int j) z S = sdO i z (.inl j) S[i]? S := id rfl
end
end Dv

/-! ### list(zip(a, b)), two lists -/
namespace Zl
open PySem PySem.Spec PyProof.Rows L2 PySem.W
/-- where the zip stands ahead of turn j -/
def ZSt (h : Heap) (z TI TO i1 i2 a b : Addr) (j : Nat) : Prop := IsPair h TI (.ref i1) (.ref i2) ∧ h.IsListIter i1 a j ∧ h.IsListIter i2 b j ∧
  ((IsZip h z TI TO .none ∧ ∃ u v, IsPair h TO u v) ∨ ∃ T f oT, IsZipHeld h z TI TO T f ∧ h.get? T = some oT ∧ (∃ oO, h.get? TO = some oO) ∧ T ≠ z ∧ T ≠ TO ∧ T ≠ i1 ∧ T ≠ i2)
theorem ZSt.at {h h' : Heap} {z TI TO i1 i2 a b : Addr} {j : Nat} {L : Addr} (st : ZSt h z TI TO i1 i2 a b j) (n : L ≠ z ∧ L ≠ TI ∧ L ≠ TO ∧ L ≠ i1 ∧ L ≠ i2) (hk : ∀ c o, c ≠ L → h.get? c = some o → h'.get? c = some o)
    (ho : ∀ o, h.get? L = some o → ∃ o', h'.get? L = some o') : ZSt h' z TI TO i1 i2 a b j := by
  obtain ⟨n1, n2, n3, n4, n5⟩ := n
  obtain ⟨p, q1, q2, w⟩ := st
  refine ⟨hk _ _ (Ne.symm n2) p, q1.at fun o e => hk _ o (Ne.symm n4) e, q2.at fun o e => hk _ o (Ne.symm n5) e, ?_⟩
  rcases w with ⟨w1, u, v, w2⟩ | ⟨T, f, oT, w1, w2, w3⟩
  · exact .inl ⟨hk _ _ (Ne.symm n1) w1, u, v, hk _ _ (Ne.symm n3) w2⟩
  · obtain ⟨⟨oO, w4⟩, w3⟩ := w3
    by_cases e : T = L
    · subst e
      obtain ⟨o', e'⟩ := ho _ w2
      exact .inr ⟨T, f, o', hk _ _ (Ne.symm n1) w1, e', ⟨oO, hk _ _ (Ne.symm n3) w4⟩, w3⟩
    · exact .inr ⟨T, f, oT, hk _ _ (Ne.symm n1) w1, hk _ _ e w2, ⟨oO, hk _ _ (Ne.symm n3) w4⟩, w3⟩
section
variable {X : Cx} {pins : List (Addr × Obj)} {σ : L2.St}
theorem loop {Q : VK} (hc : X.calm = true) {z TI TO i1 i2 a b L : Addr} (D : ZipApart z TI TO i1 i2 a b) (nL : L ≠ z ∧ L ≠ TI ∧ L ≠ TO ∧ L ≠ i1 ∧ L ≠ i2) {xs ys : List V} {n : Nat} (hn : n = min xs.length ys.length) (hl : n ≤ sizeLine) {Z : Nat → Hp → Prop}
    (hZ : ∀ j H, Z j H → SqL X.K H a xs ∧ SqL X.K H b ys ∧ ∃ rs, H L = some (.lst rs) ∧ rs.length = j)
    (hstep : ∀ j H T x y rs, Z j H → xs[j]? = some x → ys[j]? = some y → H T = none → H L = some (.lst rs) → ∀ us, Z (j + 1) (upd (upd H T (Fz.fz us [x, y])) L (.lst (rs ++ [.ref T]))))
    (hfin : ∀ H, Z n H → Q (.ref L) H) :
    ∀ (k j : Nat) (s : Shared) (H : Hp), n - j = k → j ≤ n → Inv X pins σ H s → Z j H → ZSt s.heap z TI TO i1 i2 a b j → (∀ c ∈ [z, TI, TO, i1, i2], FpOk X pins H c) →
      codeAny (model X.prog X.w) X.A.in1 (.builtin "list.extend.loop" ⟨[.ref L, .ref z, .none], []⟩) (wants (fun r s2 => r = .none ∧ EP X pins σ Q (.ref L) s2) X.xe) s := by
  intro k
  induction k with
  | zero =>
    intro j s H hk hj I zj st fp
    have jn : j = n := by omega
    subst jn
    obtain ⟨sa, sb, rs, hL, lr⟩ := hZ _ _ zj
    obtain ⟨its, rv, p1, _⟩ := I.list sa
    obtain ⟨its2, rv2, p2, _⟩ := I.list sb
    have l1 := rv.length
    have l2 := rv2.length
    have en : its.toArray[j]? = none ∨ its2.toArray[j]? = none := by
      rcases Nat.le_total xs.length ys.length with q | q
      · exact .inl (by simp; omega)
      · exact .inr (by simp; omega)
    obtain ⟨pI, q1, q2, w⟩ := st
    refine codeAny_builtin F.entry_extend_loop ?_ -- zl53
    rw [Around.under_plainId F.plain_extend_loop]
    have don : ∀ h' : Heap, (∀ c o, c ∉ [z, TI, TO, i1, i2] → s.heap.get? c = some o → h'.get? c = some o) → EP X pins σ Q (.ref L) { s with heap := h' } := fun h' hk' => ⟨.ref L, H, I.turnedL (t' := s.toks) (ch := [z, TI, TO, i1, i2]) hk' fp, rfl, hfin H zj⟩
    show wpAny _ X.A.in1.in1 (pyNext (Value.ref z) >>= _) _ _ _
    rcases w with ⟨w1, u, v, w2⟩ | ⟨T, f, oT, w1, w2, w3⟩
    · refine wpAny_bind (wpAny_pyNext_zip_end (I.ok.hd hc) D w1 pI w2 q1 q2 p1.isList p2.isList en fun h' hk' => ?_)
      exact wpAny_pure ⟨rfl, don h' fun c o hc' e => hk' c o (fun q => hc' (by simp [q])) (fun q => hc' (by simp [q])) (fun q => hc' (by simp [q])) (fun q => hc' (by simp [q])) e⟩
    · refine wpAny_bind (wpAny_pyNext_zip_end_held (I.ok.hd hc) D w1 w2 pI q1 q2 p1.isList p2.isList en fun h' hk' => ?_)
      exact wpAny_pure ⟨rfl, don h' fun c o hc' e => hk' c o (fun q => hc' (by simp [q])) (fun q => hc' (by simp [q])) (fun q => hc' (by simp [q])) e⟩
  | succ k ih =>
    intro j s H hk hj I zj st fp
    have jl : j < n := by omega
    obtain ⟨sa, sb, rs, hL, lr⟩ := hZ _ _ zj
    obtain ⟨its, rv, p1, _⟩ := I.list sa
    obtain ⟨its2, rv2, p2, _⟩ := I.list sb
    have jx : j < xs.length := by omega
    have jy : j < ys.length := by omega
    have hx : xs[j]? = some xs[j] := List.getElem?_eq_getElem jx
    have hy : ys[j]? = some ys[j] := List.getElem?_eq_getElem jy
    obtain ⟨u, hu, ru⟩ := rv.get hx -- zl72
    obtain ⟨u2, hu2, ru2⟩ := rv2.get hy -- zl73
    have tn : H s.heap.objs.size = none := I.hok.fresh (Nat.le_refl _)
    have nT : L ≠ s.heap.objs.size := ne_of_none hL tn
    -- behind the item: it is put to the list
    have rest : ∀ h' : Heap, IsPair h' s.heap.objs.size u u2 → ZSt h' z TI TO i1 i2 a b (j + 1) → (∀ c ∈ [z, TI, TO, i1, i2], c ≠ s.heap.objs.size) → (∀ c o, c ∉ [z, TI, TO, i1, i2] → s.heap.get? c = some o → h'.get? c = some o) →
        wpAny (model X.prog X.w) X.A.in1.in1 (updateSeq L (·.push (Value.ref s.heap.objs.size)) >>= fun _ => again (.builtin "list.extend.loop" ⟨[.ref L, .ref z, .none], []⟩))
          (fun fin s' => match fin with | .done f => wants (fun r s2 => r = .none ∧ EP X pins σ Q (.ref L) s2) X.xe (.ok f) s' | .again c' => c'.quiet = true ∧ codeAny (model X.prog X.w) X.A.in1 c' (wants (fun r s2 => r = .none ∧ EP X pins σ Q (.ref L) s2) X.xe) s')
          (fun e s' => wants (fun r s2 => r = .none ∧ EP X pins σ Q (.ref L) s2) X.xe (.error e) s') { s with heap := h' } := fun h' pT st' nn hk' => by
      have new : ObjOk X.prog X.w (upd H s.heap.objs.size (Fz.fz [u, u2] [xs[j], ys[j]])) h' s.heap.objs.size (Fz.fz [u, u2] [xs[j], ys[j]]) := ⟨pT, by show 2 ≤ sizeLine; decide, [u, u2], .cons ru (.cons ru2 .nil), ⟨_, pT, rfl, _, rfl⟩⟩
      have I1 : Inv X pins σ (upd H s.heap.objs.size (Fz.fz [u, u2] [xs[j], ys[j]])) { s with heap := h' } := I.turnedNew (t' := s.toks) (ch := [z, TI, TO, i1, i2]) hk' fp (Nat.le_refl _) new
      have hL1 : upd H s.heap.objs.size (Fz.fz [u, u2] [xs[j], ys[j]]) L = some (.lst rs) := by rw [upd_ne nT]; exact hL
      obtain ⟨zl, ls, m, rl, ob⟩ := I1.hok L _ hL1
      have rll := rl.length
      obtain ⟨m', up⟩ : ∃ m', (h'.update L (Obj.mapSeq fun x => x.push (Value.ref s.heap.objs.size))).get? L = some { cls := .type "list", dict := none, data := .seq (ls.toArray.push (Value.ref s.heap.objs.size)) m', slots := #[] } := ⟨_, Heap.get?_update_self _ ob rfl⟩
      have ot : ∀ c o, c ≠ L → h'.get? c = some o → (h'.update L (Obj.mapSeq fun x => x.push (Value.ref s.heap.objs.size))).get? c = some o := fun c o ne e => (Heap.get?_update_other _ _ (Ne.symm ne)).trans e
      have rT : RelV (V.ref s.heap.objs.size) (Value.ref s.heap.objs.size) := rfl
      have new2 : ObjOk X.prog X.w (upd (upd H s.heap.objs.size (Fz.fz [u, u2] [xs[j], ys[j]])) L (.lst (rs ++ [.ref s.heap.objs.size]))) (h'.update L (Obj.mapSeq fun x => x.push (Value.ref s.heap.objs.size))) L (.lst (rs ++ [.ref s.heap.objs.size])) := by
        refine ⟨by rw [List.length_append, List.length_singleton]; omega, ls ++ [.ref s.heap.objs.size], m', rl.append (.cons rT .nil), by rw [up]; simp⟩
      have I2 := I1.write (x := L) (e := L) (t' := s.toks) (by rw [hL1]; trivial) (.inl rfl) (fun c o ne e => ot c o ne e) ⟨_, up⟩ new2
      refine wpAny_bind (wpAny_updateSeq (s := { s with heap := h' }) ob rfl (wpAny_pure ⟨plainId_quiet F.plain_extend_loop _, ih (j + 1) _ _ (by omega) jl I2 (hstep j H _ _ _ rs zj hx hy tn hL _) (st'.at nL ot fun o e => ⟨_, up⟩) fun c hc' => ?_⟩) ?_ ?_)
      · obtain ⟨f1, f2⟩ := fp c hc'
        refine ⟨?_, f2⟩
        have c1 : c ≠ L := by
          obtain ⟨n1, n2, n3, n4, n5⟩ := nL
          simp only [List.mem_cons, List.not_mem_nil, or_false] at hc'
          rcases hc' with q | q | q | q | q <;> (rw [q]; exact Ne.symm (by assumption))
        rw [upd_ne c1, upd_ne (nn c hc')]
        exact f1
      · rw [List.size_toArray]; omega
      · show (ls.toArray.push (Value.ref s.heap.objs.size)).size ≤ sizeLine + 1
        rw [Array.size_push, List.size_toArray]; omega
    obtain ⟨pI, q1, q2, w⟩ := st
    have lt1 : ∀ {c o}, s.heap.get? c = some o → c ≠ s.heap.objs.size := fun e => Nat.ne_of_lt (Heap.lt_size e)
    have e1 : i1 ≠ s.heap.objs.size := let ⟨_, e, _⟩ := q1; lt1 e
    have e2 : i2 ≠ s.heap.objs.size := let ⟨_, e, _⟩ := q2; lt1 e
    refine codeAny_builtin F.entry_extend_loop ?_ -- zl108
    rw [Around.under_plainId F.plain_extend_loop]
    show wpAny _ X.A.in1.in1 (pyNext (Value.ref z) >>= _) _ _ _
    rcases w with ⟨w1, v1, v2, w2⟩ | ⟨T, f, oT, w1, w2, ⟨oO, wO⟩, w3, w4, w5, w6⟩
    · have nn : ∀ c ∈ [z, TI, TO, i1, i2], c ≠ s.heap.objs.size := fun c hc' => by
        simp only [List.mem_cons, List.not_mem_nil, or_false] at hc'
        rcases hc' with q | q | q | q | q
        · rw [q]; exact lt1 w1
        · rw [q]; exact lt1 pI
        · rw [q]; exact lt1 w2
        · rw [q]; exact e1
        · rw [q]; exact e2
      refine wpAny_bind (wpAny_pyNext_zip_item D w1 pI w2 q1 q2 p1.isList p2.isList (x := u) (y := u2) (by simpa using hu) (by simpa using hu2) fun h' a1 a2 a3 a4 a5 a6 hk' => ?_)
      refine rest h' a5 ⟨hk' _ _ D.TIz D.TITO D.TIi1 D.TIi2 pI, a3, a4, .inr ⟨s.heap.objs.size, false, _, a1, a5, ⟨_, a2⟩, (nn z (by simp)).symm, (nn TO (by simp)).symm, e1.symm, e2.symm⟩⟩ nn fun c o hc' e => hk' c o (fun q => hc' (by simp [q])) (fun q => hc' (by simp [q])) (fun q => hc' (by simp [q])) (fun q => hc' (by simp [q])) e
    · have tO : TO ≠ s.heap.objs.size := lt1 wO
      have nn : ∀ c ∈ [z, TI, TO, i1, i2], c ≠ s.heap.objs.size := fun c hc' => by
        simp only [List.mem_cons, List.not_mem_nil, or_false] at hc'
        rcases hc' with q | q | q | q | q
        · rw [q]; exact lt1 w1
        · rw [q]; exact lt1 pI
        · rw [q]; exact tO
        · rw [q]; exact e1
        · rw [q]; exact e2
      refine wpAny_bind (wpAny_pyNext_zip_item_held D w1 w2 pI q1 q2 p1.isList p2.isList (x := u) (y := u2) (by simpa using hu) (by simpa using hu2) fun h' a1 a3 a4 a5 a6 hk' => ?_)
      refine rest h' a5 ⟨hk' _ _ D.TIz D.TIi1 D.TIi2 pI, a3, a4, .inr ⟨T, true, oT, a1, hk' _ _ w3 w5 w6 w2, ⟨oO, hk' _ _ D.TOz D.TOi1 D.TOi2 wO⟩, w3, w4, w5, w6⟩⟩ nn fun c o hc' e => hk' c o (fun q => hc' (by simp [q])) (fun q => hc' (by simp [q])) (fun q => hc' (by simp [q])) e
end
end Zl
namespace Dv
open PySem PySem.Spec PyProof.Rows L2 Gr
def lzO : Option O → Option O → Sto → R D
  | some (.lst _ xs), some (.lst _ ys), S => if xs.length ≤ mx then .ok (.ref S.length) (S ++ [.lst true ((xs.zip ys).map pr2)]) else .no
  | _, _, _ => .no
def lzK : List D → Sto → R D
  | [.ref i, .ref j], S => lzO S[i]? S[j]? S
  | _, _ => .no
def dLZ (a : DenA) : Den := fun lv ρ S => (a lv ρ S).bind lzK
@[simp] theorem ev_lz {a : DenA} {lv : Lv} {ρ : Env} {S : Sto} : dLZ a lv ρ S = (a lv ρ S).bind lzK := id rfl
@[simp] theorem lzK_rr {i j : Nat} {S : Sto} : lzK [.ref i, .ref j] S = lzO S[i]? S[j]? S := id rfl
@[simp] theorem lzO_ll {a b : Bool} {xs ys : List D} {S : Sto} : lzO (some (.lst a xs)) (some (.lst b ys)) S = if xs.length ≤ mx then .ok (.ref S.length) (S ++ [.lst true ((xs.zip ys).map pr2)]) else .no := id rfl
theorem sq_keep {K : PySem.W.Frag} {H H' : Hp} {a : Addr} {vs : List V} (h : SqL K H a vs) (k : ∀ c o, H c = some o → H' c = some o) : SqL K H' a vs := by
  rcases h with (h | ⟨o, h⟩) | h -- zl242
  · exact .inl (.inl (k _ _ h))
  · exact .inl (.inr ⟨o, k _ _ h⟩)
  · exact .inr h
theorem RepL.back {K : PySem.W.Frag} {ι : List Addr} {H : Hp} {ds : List D} {vs : List V} {i : Nat} {v : V} (h : RepL K ι H ds vs) (e : vs[i]? = some v) : ∃ d, ds[i]? = some d ∧ Rep K ι H d v := by
  have hi : i < ds.length := by rw [h.len]; exact (List.getElem?_eq_some_iff.mp e).1
  obtain ⟨u, e1, r⟩ := h.get (List.getElem?_eq_getElem hi)
  rw [e] at e1
  cases e1
  exact ⟨_, List.getElem?_eq_getElem hi, r⟩
section
variable {X : Cx} {tabs : List Tb} {EX : EXT} {lv : Lv} {ra : DenA} {e e2 : Expr} {p q pos zpos : Pos}
end
end Dv

namespace Dv
open PySem PySem.Spec PyProof.Rows L2 Gr
/-! ### dict(pairs), the keys tuples -/
section
variable {X : Cx} {pins : List (Addr × Obj)} {σ : L2.St} {H : Hp} {s : Shared}
end
section
variable {X : Cx} {EX : EXT} {lv : Lv} {tabs : List Tb} {e : Expr} {es : List Expr} {ra : DenA} {p pos : Pos}
end
end Dv

namespace Dv
open PySem PySem.Spec PyProof.Rows L2 Gr
/-! ### d.get(k, x) -/
section
variable {X : Cx} {EX : EXT} {lv : Lv} {tabs : List Tb} {o e f : Expr} {da db dz : Den} {apos cpos : Pos}
end
/-! ### dict(pairs), the keys numbers or words -/
section
variable {X : Cx} {EX : EXT} {lv : Lv} {tabs : List Tb} {e : Expr} {es : List Expr} {ra : DenA} {p pos : Pos}
end
end Dv

/-! refusals: raised, let through, caught -/
namespace Dv
open PySem PySem.Spec PyProof.Rows L2 Gr
/-- the wish of an error, by its number -/
def exE (g : Nat → Value) (W : WX) : EXT := fun c σ H => W (g c) none σ H
/-- the wish of a def's errors -/
abbrev wD_ (E : XK) : WX := fun cls d _ H => E cls d H
/-- an error of the class with this number -/
def sRz (c : Nat) : DenS := fun _ ρ S => .ok (.xc c ρ) S
section
variable {X : Cx} {w : Wn} {lv : Lv} {g : Nat → Value} {W : WX} {e : Expr} {c : Nat} {pos : Pos} {C : Addr}
theorem sd_raise (hc : X.calm = true) (tk : Takes X W) (gc : g c = .ref C) (he : PMk X e (fun _ H Q => Q (.ref C) none H)) : PS X (.Raise (some e) none pos) (semS w (exE g W) lv (sRz c)) := PS.imp (ps_raise hc tk he) fun Dn σ H h => by
  obtain ⟨ρ, S, ι, he, hs, hw⟩ := h
  have z : exE g W c σ H := hw σ H ι (Le.refl _ _) hs he
  unfold exE at z
  rw [gc] at z
  exact z
theorem pass_E (tk : Takes X W) (σ : L2.St) : PassesAt (L2.CX X.prog X.w) X σ (EE (some g) (exE g W) σ) := fun _ _ _ e s' I cx => tk e s' (XE.of_call I (fun cls d H' h => by
  obtain ⟨c, g', h1, rfl, rfl, h4⟩ := h
  obtain rfl := Option.some.inj h1
  exact h4) cx)
theorem fn_okE {P : Program} {w : World} {K : PySem.W.Frag} {mg : Str → Option Value} {base : Heap} {k : Nat} {f : Addr} {name qual : Str} {params : Arguments} {body : List Stmt} {scope : Scope} {dV kV doc pm cdv ct oc : Value} {an od : Option Addr}
    {osl : Array (Option Value)} {N ps : List Str} {tabs : List Tb} {lv : Lv} {den : DenS} {g : Nat → Value} (lk : K.lookup f = some ⟨oc, od, .func (PySem.W.fnOf name qual params body scope dV kV doc pm an cdv ct), osl⟩) (hcd : PySem.W.codeIn K cdv qual = true) (S : FnScope N ps scope)
    (hbody : ∀ (A : Around) (outer : List PySem.Env) (s : Shared) (H : Hp) (E : XK), RoomG k (A.deeper (envOfC qual scope s.heap.objs.size f cdv)) →
      PSs (cxOf (L2.CX P w) P w K mg base N qual scope f cdv A outer s H E) body (semS ⟨K, tabs⟩ (exE g (wD_ E)) lv den)) :
    Gr.FnG P w K mg base (L2.CX P w) (k + 1) f (PySem.W.fnOf name qual params body scope dV kV doc pm an cdv ct) ps (spD ⟨K, tabs⟩ (some g) ps.length (runF den N.length lv)) := by
  refine Gr.fn_ofG lk hcd S (fun vs H Q E h => ?_) fun A outer s H vs Q E hr h => ?_
  · obtain ⟨_, _, _, hl, _⟩ := h
    exact hl
  · obtain ⟨St, ι, ds, hl, hs, r, hw⟩ := h
    refine ⟨_, hbody A outer s H E hr, _, St, ι, start_rep r, hs, ?_⟩
    unfold runF at hw
    cases e : den lv (startE N.length ds) St with
    | ok a S1 =>
      rw [e] at hw
      cases a with
      | nx ρ => exact fun σ' H' ι' l s1 e1 => hw .non H' ι' l s1 rfl
      | rt d => exact hw
      | xc c ρ => exact fun σ' H' ι' l s1 e1 => hw H' ι' l s1
      | bk ρ => exact hw.elim
      | ct ρ => exact hw.elim
    | ex c S1 => rw [e] at hw; exact hw.elim
    | no => rw [e] at hw; exact hw.elim
/-- what leaves a def's body is the def's -/
theorem tk_of {P : Program} {w : World} {K : PySem.W.Frag} {mg : Str → Option Value} {base : Heap} {N : List Str} {qual : Str} {scope : Scope} {f : Addr} {cdv : Value} {A : Around} {outer : List PySem.Env} {s : Shared} {H : Hp} {E : XK} : Takes (cxOf (L2.CX P w) P w K mg base N qual scope f cdv A outer s H E) (wD_ E) := takes_of rfl rfl rfl rfl
end
/-- an own class of refusals -/
structure ExcC (K : PySem.W.Frag) (mg : Str → Option Value) (x : Str) (C : Addr) : Prop where
  gC : mg x = some (.ref C)
  q : PySem.W.excIn K C [.type "ValueError", .type "Exception", .type "BaseException", .type "object"] "ValueError.__new__" = true
  kC : PySem.W.keepIn K (.ref C) = true
  bP : PySem.W.subIn K (.ref C) (.type "BaseException") = some true
  tP : PySem.W.typeIn K (.ref C) = some (.type "type")
/-- the classes by number -/
def gx (xc : Nat → Addr) : Nat → Value := fun c => .ref (xc c)
section
variable {X : Cx} {w : Wn} {lv : Lv} {xc : Nat → Addr} {W : WX} {x m : Str} {p p2 pos pos' : Pos} {j : Nat}
theorem zraise (c : Nat) (F : ExcC X.K X.mg x (xc c)) (tk : Takes X W) (hc : X.calm = true := by rfl) (hg : Gl X x := by rfl) (hdb : (x == ("__debug__" : Str)) = false := by decide) :
    PS X (.Raise (some (.Call (.Name x p) [.Constant (.str m) j p2] [] pos)) none pos') (semS w (exE (gx xc) W) lv (sRz c)) :=
  sd_raise hc tk rfl (pmk_own PySem.F.excBase_ValueError F.q F.gC F.kC (raises_own F.bP F.tP) hg hdb)
end
theorem cx_no {P : Program} {w : World} {l : List PySem.Env} : ∀ (H : Hp) (s : Shared) (e : Value) (s' : Shared), L2.CX P w l H s (fun _ _ _ => False) e s' → False := fun _ _ _ _ h => by
  obtain ⟨_, _, _, _, _, _, _, _, _, _, _, _, f⟩ := h
  exact f
theorem law_spE {cl : Option (Nat → Value)} {K : PySem.W.Frag} {tabs : List Tb} {fn : List D → Sto → R D} {cs : List (Addr × Addr)} {n : Nat} (hcs : ∀ P ∈ tabs, ∃ p ∈ cs, p.2 = P.1) (tu : ∀ t ∈ tabs, ∀ u ∈ tabs, t.1 = u.1 → t = u)
    (law : ∀ (b : Bool) (ns : List Int), ns.length ≤ n → (∀ z ∈ ns, Builtin.Int.intBits z ≤ 1048576) → ∃ S', fn [.ref 0] [.lst b (ns.map D.int)] = .ok (.bl true) S') :
    ∀ (H : Hp) (a : Addr) (ns : List Int), ns.length ≤ n → (∀ z ∈ ns, Builtin.Int.intBits z ≤ 1048576) → (∀ p ∈ cs, H p.2 = some (.tbl #[])) → SqL K H a (ns.map V.int) →
      spD ⟨K, tabs⟩ cl 1 fn [.ref a] H (fun v _ => v = .bl true) fun _ _ _ => False := by
  intro H a ns hl hb hT hS
  have rl : ∀ ms : List Int, RepL K [a] H (ms.map D.int) (ms.map V.int) := fun ms => by
    induction ms with
    | nil => exact rfl
    | cons m ms ih => exact ⟨_, _, rfl, rfl, ih⟩
  have sr : ∃ b, SRep K tabs [a] [.lst b (ns.map D.int)] H := by
    have one : ∀ (b : Bool), ORep K [a] H (.lst b (ns.map D.int)) a → SRep K tabs [a] [.lst b (ns.map D.int)] H := fun b ho => by
      refine ⟨rfl, fun i j x oi oj h1 h2 _ _ _ _ => ?_, fun i o x h1 h2 => ?_, fun P hP => ?_, tu⟩
      · have hi := (List.getElem?_eq_some_iff.mp h1).1
        have hj := (List.getElem?_eq_some_iff.mp h2).1
        simp at hi hj
        rw [hi, hj]
      · have hi := (List.getElem?_eq_some_iff.mp h1).1
        simp at hi
        subst hi
        simp at h1 h2
        subst h1 h2
        exact ho
      · obtain ⟨p, hp, e⟩ := hcs P hP
        exact tabK_nil (by rw [← e]; exact hT p hp)
    rcases hS with (h | ⟨o, h⟩) | h
    · exact ⟨true, one true ⟨_, h, rl ns⟩⟩
    · exact ⟨false, one false ⟨_, .inl ⟨o, h⟩, rl ns⟩⟩
    · exact ⟨false, one false ⟨_, .inr h, rl ns⟩⟩
  obtain ⟨b, sr⟩ := sr
  obtain ⟨S', e⟩ := law b ns hl hb
  refine ⟨_, [a], [.ref 0], rfl, sr, ⟨_, [], rfl, ⟨a, rfl, rfl⟩, rfl⟩, ?_⟩
  rw [e]
  intro v H' ι' _ _ r
  exact r
end Dv

/-! two clauses behind one try -/
namespace Dv
open PySem PySem.Spec PyProof.Rows L2 Gr
section
variable {X : Cx} {w : Wn} {lv : Lv} {g : Nat → Value} {W : WX} {pos : Pos}
end
section
variable {X : Cx} {lv : Lv} {xc : Nat → Addr} {W : WX} {x y : Str} {pos : Pos}
end
end Dv

/-! a refusal that is caught, and kept behind its suite -/
namespace Gq
open PySem PySem.Spec PyProof.Rows L2
theorem exv_obj {P : Program} {w : World} {H : Hp} {h : Heap} {a C : Addr} {oe : Obj} {vs : Array Value} (e : h.get? a = some oe) (z : Zc (.ref C) none oe) (d : oe.data = .fields vs) : ObjOk P w H h a (Gn.exV C a) :=
  ⟨⟨oe, vs, e, z, d⟩, ⟨oe, e⟩, fun _ _ ⟨o, v, q, r⟩ k => ⟨o, v, k o q, r⟩⟩
/-- what lies there untracked, younger than some state of the same call, is tracked -/
theorem track {X : Cx} {pins : List (Addr × Obj)} {σ σ1 : L2.St} {H H1 : Hp} {s sI : Shared} {a C : Addr} {oe : Obj} {vs : Array Value} (I : Inv X pins σ H s) (J : Inv X pins σ1 H1 sI) (nb : sI.heap.get? a = none)
    (ha : s.heap.get? a = some oe) (hz : Zc (.ref C) none oe) (hd : oe.data = .fields vs) (na : H a = none) (nL : a ≠ X.env.locals) : Inv X pins σ (upd H a (Gn.exV C a)) s := by
  have old : ∀ b ob, X.s_0.heap.get? b = some ob → b ∉ X.ex → b ≠ a := fun b ob e hx z => by
    obtain ⟨o2, q⟩ := J.base.there b ob e hx
    rw [z, nb] at q
    cases q
  have pin_ : ∀ p ∈ X.pn ++ pins, p.1 ≠ a := fun p hp z => by
    have q := (J.pin p hp).1
    rw [z, nb] at q
    cases q
  have cel : ∀ x c, X.env.cells.lookup x = some c → c ≠ a := fun x c e z => by
    obtain ⟨v, o, q, r⟩ := I.cell x c e
    rw [z, ha] at q
    cases q
    rw [hd] at r
    cases r
  have up_ : ∀ {b : Addr} {u : HO}, H b = some u → upd H a (Gn.exV C a) b = some u := fun {b u} q => by
    rw [upd_ne (ne_of_none q na)]
    exact q
  refine ⟨I.ok, I.os, I.bare, ⟨I.base.keep, I.base.slot, fun b ob e n hx => ?_, I.base.there, fun b xs q => up_ (I.base.tups b xs q), fun b ob u q => up_ (I.base.frzs b ob u q), fun b ps q => ?_⟩, I.loc, I.cell, ?_, fun x c e => ?_, fun p hp => ?_, fun b u e => ?_, I.len⟩
  · rw [upd_ne (old b ob e hx)]
    exact I.base.free b ob e n hx
  · obtain ⟨m, q⟩ := I.base.tbls b ps q
    exact ⟨m, up_ q⟩
  · rw [upd_ne (Ne.symm nL)]
    exact I.free
  · rw [upd_ne (cel x c e)]
    exact I.freeC x c e
  · obtain ⟨q1, q2, q3⟩ := I.pin p hp
    exact ⟨q1, by rw [upd_ne (pin_ p hp)]; exact q2, q3⟩
  · by_cases hb : b = a
    · subst hb
      rw [upd_same] at e
      cases e
      exact exv_obj ha hz hd
    · rw [upd_ne hb] at e
      exact (I.hok b u e).stay (fun _ _ _ q => q) (fun c q => up_ q) fun c xs q => up_ q

/-- what such a clause wishes: slot i is its name's -/
def wKp (K : PySem.W.Frag) (c : Value) (i : Nat) (ts : Addr → TS) (Wout : WX) (D : Ends) : WX := fun cls d σ H =>
  ∃ b, PySem.W.exmOne K cls c = some b ∧ (b = true → ∃ C, cls = .ref C ∧ d = none ∧ ∀ a, H a = none → ts a ⟨fun σ' H' => H' a = none → D.nx (σ'.set i none) (upd H' a (Gn.exV C a)), fun _ _ => False, fun _ _ => False, fun _ _ => False⟩ (σ.set i (some (.ref a))) H) ∧
    (b = false → Wout cls d σ H)
section
variable {X : Cx} {x n : Str} {c : Value} {i : Nat} {body suite : List Stmt} {b₀ : Stmt} {np pos pos' : Pos} {tb : WX → TS} {ts : Addr → TS} {Wout : WX}
theorem ps_try_keep (hs : X.stack = X.env :: X.outer) (hf : X.env.frame = some X.env.locals) (hN : X.N.Nodup) (hi : X.N[i]? = some n) (hln : X.env.kindOf n = some .local) (hc : Names X x c) (tk : Takes X Wout)
    (hb : ∀ (W : WX) (pn : List (Addr × Obj)) (xe : Value → Shared → Prop), Takes (X.tr pn xe) W → PassesOwn (model X.prog X.w) X.A X.env xe → PSs (X.tr pn xe) body (tb W))
    (hsu : ∀ (a : Addr) (pn : List (Addr × Obj)), PSs (X.suite a pn) (b₀ :: suite) (ts a)) :
    PS X (.Try body [.ExceptHandler (some (.Name x np)) (some n) (b₀ :: suite) pos'] [] [] pos) (fun D σ H => tb (wKp X.K c i ts Wout D) D σ H) := ⟨fun pins s σ H D I h => by
  have hfr : X.A.frames = some (X.env :: X.outer) := by rw [I.ok.frames, hs]
  refine wpAny_Try_except (wpAny_mono ((hb _ (X.pn ++ pins) (fun e z1 => wpAny (model X.prog X.w) X.A (noteFrame e X.env) (fun _ z2 => wpAny (model X.prog X.w) X.A (setFlight e none)
    (fun _ z3 => wpAny (model X.prog X.w) X.A (handleBy e X.env [.ExceptHandler (some (.Name x np)) (some n) (b₀ :: suite) pos']) (SP X pins D) X.xe z3) X.xe z2) X.xe z1) (fun u z xx => ?_) PassesOwn.looking).run [] s σ H D (I.toTry _) h) (fun f z hz => ?_) fun e z he => he)
  rotate_left
  · cases f with
    | next => obtain ⟨p, q, r, t⟩ := hz; exact wpAny_execs_nil ⟨p, q, r.ofTry I.ok, t⟩
    | ret u => obtain ⟨y, p, q, r, t⟩ := hz; exact ⟨y, p, q, r.ofTry I.ok, t⟩
    | brk => obtain ⟨p, q, r, t⟩ := hz; exact ⟨p, q, r.ofTry I.ok, t⟩
    | cont => obtain ⟨p, q, r, t⟩ := hz; exact ⟨p, q, r.ofTry I.ok, t⟩
  obtain ⟨a, B, zI, pins1, σ1, H1, cls, d, rfl, J, nb, up, sky, na, os, ag, b, hb1, hyes, hno⟩ := xx
  have J : Inv X pins σ1 H1 zI := J.ofTry I.ok
  show wpAny (model X.prog X.w) X.A (noteFrame (.ref a) X.env) _ _ _
  refine Sky.land Zc.steady hfr hf (by rw [← hs]; exact sky) fun h3 fl up3 => ?_
  have back : ∀ h4, HandSPX.FlyingZ B (X.env :: X.outer) a (Zc cls d) h4 → z.heap.UpToSlots h4 → ∃ oe vs, h4.get? a = some oe ∧ Zc cls d oe ∧ oe.data = .fields vs ∧ a ≠ X.env.locals ∧ a ∉ frs (X.env :: X.outer) ∧ Inv (X.suite a ((a, oe) :: (X.pn ++ pins))) [] σ1 H1 { z with heap := h4 } := fun h4 fl4 up4 => by
    obtain ⟨oe, vs, e1, e2, e3⟩ := fl4.there
    have nfr : a ∉ frs (X.env :: X.outer) := fun hm => by
      obtain ⟨_, o2, q, nf⟩ := fl4.2.2.1.mem hm
      rw [e1] at q
      cases q
      exact nf _ e3
    have nL : a ≠ X.env.locals := fun q => nfr (List.mem_filterMap.mpr ⟨X.env, List.mem_cons_self, by rw [hf, q]⟩)
    have J4 : Inv X pins σ1 H1 { z with heap := h4 } := J.landed nb fl4.1 (up.trans up4) os ag
    refine ⟨oe, vs, e1, e2, e3, nL, nfr, J4.suite e1 e3 na nL fun hm => ?_⟩
    obtain ⟨y, hy, q⟩ := List.mem_filterMap.mp hm
    exact nfr (List.mem_filterMap.mpr ⟨y, List.mem_cons_of_mem _ hy, q⟩)
  obtain ⟨oe, vs, e1, e2, e3, nL, nfr, S3⟩ := back h3 fl up3
  have nz : zI.heap.get? a = none := by
    cases q : zI.heap.get? a with
    | none => rfl
    | some o =>
      have q2 := nb a o q (by rw [show (X.tr _ _).stack = X.env :: X.outer from hs]; exact nfr)
      rw [fl.2.1] at q2
      cases q2
  refine wpAny_handleBy_cons (codeAny_handlers_test ?_) fun q => nomatch q
  have LM := PySem.W.exm_one (M := model X.prog X.w) S3.kIn (fun A Q E s k q => wpAny_typeOf_ref (k _ _ e1) (by rw [e2.1]; exact q)) hb1
  have test : ∀ {Q E : Value → Shared → Prop}, Q c { z with heap := h3 } → wpAny (model X.prog X.w) (X.A.mark (some (.ref a))) (eval (.Name x np) X.env) Q E { z with heap := h3 } := fun {Q E} q => by
    obtain ⟨g1, g2, g3 | ⟨g3, g4, g5⟩⟩ := hc
    · exact ld_glob S3 g1 g3 q g2
    · exact ld_blt S3 g1 g3 g4 q g5 g2
  refine test (LM.here ?_)
  cases b with
  | true =>
    obtain ⟨C, rfl, rfl, hy⟩ := hyes rfl
    refine codeAny_handlers_suite_as (HandSPX.lands_againZ fl fun h4 fl4 up4 => ?_)
    obtain ⟨o4, v4, q1, q2, q3, _, _, S4⟩ := back h4 fl4 (up3.trans up4)
    refine store_ok (X := X.suite a ((a, o4) :: (X.pn ++ pins))) (v := .ref a) S4 hN hi (.inl hln) rfl (fun z5 S5 => ?_) (.inr hln)
    refine wpAny_mono ((hsu a _).run [] z5 _ H1 _ S5 (hy a na)) (fun f z6 hz => ?_) fun _ _ q => q.elim
    cases f with
    | next =>
      obtain ⟨σ6, H6, S6, k6⟩ := hz
      obtain ⟨p1, p2, _⟩ := S6.pin (a, o4) (List.mem_append.mpr (.inl List.mem_cons_self))
      exact gone_ok (track (S6.unsuite I.ok) J nz p1 q2 q3 p2 nL) hN hi hln fun z7 J7 => ⟨_, _, J7, k6 p2⟩
    | brk => obtain ⟨_, _, _, k⟩ := hz; exact k.elim
    | cont => obtain ⟨_, _, _, k⟩ := hz; exact k.elim
    | ret u => obtain ⟨_, _, _, _, _, k⟩ := hz; exact k.elim
  | false =>
    show wpAny _ X.A (handleBy (.ref a) X.env []) _ _ _
    refine wpAny_handleBy_nil ?_
    obtain ⟨_, _, _, o5, v5, T, _, _, f1, _, f2, f3, _⟩ := id fl
    unfold PySem.passOn
    refine wpAny_bind (wpAny_field f1 f2 f3 ?_)
    rw [if_neg (show ¬ ((Value.ref T == Value.none) = true) from by simp)]
    have fin : wpAny (model X.prog X.w) X.A (setFlight (.ref a) X.env.frame) (fun _ z4 => wpAny (model X.prog X.w) X.A (throw (.ref a) : Sem Flow) (SP X pins D) X.xe z4) X.xe { z with heap := h3 } := by
      rw [hf]
      exact HandSPX.setFlight_upZ fl fun h4 hh up4 => wpAny_throw (tk _ _ ⟨a, B, zI, pins, σ1, H1, cls, d, rfl, J, nb, (up.trans up3).trans up4, .inr (.inr (by rw [hs]; exact hh)), na, os, ag, hno rfl⟩)
    first
      | exact wpAny_bind (wpAny_pure (wpAny_bind fin))
      | exact wpAny_bind fin⟩
end
end Gq

/-! refusals that are kept: try .. except X as e: caught = e; what isinstance tells of them -/
namespace Dv
open PySem PySem.Spec PyProof.Rows L2 Gr
def keepK (m : Nat) (q : Nat → Bool) (nm : Nat → Str) (i j : Nat) : R Fl → R Fl
  | .ok (.xc c ρ) S => if q c = true then (if i < ρ.length ∧ c < m then .ok (.nx (((ρ.set i (some (.ref S.length))).set j (some (.ref S.length))).set i none)) (S ++ [.xc (nm c) c]) else .no) else .ok (.xc c ρ) S
  | r => r
/-- errors of some classes are caught and kept in slot j; the clause's name is slot i's -/
def sTryK (m : Nat) (q : Nat → Bool) (nm : Nat → Str) (i j : Nat) (a : DenS) : DenS := fun lv ρ S => keepK m q nm i j (a lv ρ S)
section
variable {X : Cx} {lv : Lv} {xc : Nat → Addr} {W : WX} {pos : Pos} {tabs : List Tb}
theorem sd_tryK {x n : Str} {cv : Value} {body : List Stmt} {b₀ : Stmt} {np pos' : Pos} {m : Nat} {q : Nat → Bool} {nm : Nat → Str} {i j : Nat} {a : DenS} (hs : X.stack = X.env :: X.outer) (hf : X.env.frame = some X.env.locals) (hN : X.N.Nodup) (hi : X.N[i]? = some n) (hln : X.env.kindOf n = some .local) (hc : Names X x cv) (tk : Takes X W)
    (hq : ∀ c, PySem.W.exmOne X.K (.ref (xc c)) cv = some (q c)) (hn : ∀ c, c < m → PySem.W.nsIn X.K mainGlobals (nm c) = some (some (.ref (xc c))) ∧ Gn.ExcD X.K (xc c))
    (hb : ∀ (W' : WX) (pn : List (Addr × Obj)) (xe : Value → Shared → Prop), Takes (X.tr pn xe) W' → PassesOwn (model X.prog X.w) X.A X.env xe → PSs (X.tr pn xe) body (semS ⟨X.K, tabs⟩ (exE (gx xc) W') lv a))
    (hsu : ∀ (a : Addr) (pn : List (Addr × Obj)), PSs (X.suite a pn) [b₀] (tAsg (tVar i) (gName j))) :
    PS X (.Try body [.ExceptHandler (some (.Name x np)) (some n) [b₀] pos'] [] [] pos) (semS ⟨X.K, tabs⟩ (exE (gx xc) W) lv (sTryK m q nm i j a)) := by
  refine PS.imp (Gq.ps_try_keep (ts := fun _ => tAsg (tVar i) (gName j)) (tb := fun W' => semS ⟨X.K, tabs⟩ (exE (gx xc) W') lv a) hs hf hN hi hln hc tk hb hsu) fun Dn σ H h => ?_
  obtain ⟨ρ, S, ι, he, hs, hw⟩ := h
  refine ⟨ρ, S, ι, he, hs, ?_⟩
  unfold sTryK at hw
  cases er : a lv ρ S with
  | ok f S1 =>
    rw [er] at hw
    cases f with
    | nx ρ1 => exact hw
    | rt d => exact hw
    | bk ρ1 => exact hw
    | ct ρ1 => exact hw
    | xc c ρ1 =>
      have hw : (if q c = true then (if i < ρ1.length ∧ c < m then R.ok (Fl.nx (((ρ1.set i (some (.ref S1.length))).set j (some (.ref S1.length))).set i none)) (S1 ++ [.xc (nm c) c]) else .no) else .ok (.xc c ρ1) S1).wp (PF ⟨X.K, tabs⟩ (exE (gx xc) W) ι H Dn) noX := hw
      intro σ' H' ι' l s1 e1
      refine ⟨q c, hq c, fun hh => ⟨xc c, rfl, rfl, fun ad na => ?_⟩, fun hh => ?_⟩
      · rw [if_pos hh] at hw
        by_cases hl : i < ρ1.length ∧ c < m
        · rw [if_pos hl] at hw
          obtain ⟨n1, n2⟩ := hn c hl.2
          obtain ⟨s2, l2⟩ := s1.new (u := Gn.exV (xc c) ad) (o := .xc (nm c) c) na rfl ⟨xc c, upd_same, n1, n2⟩
          refine ⟨.ref ad, List.getElem?_set_self (by rw [← e1.1]; exact hl.1), fun _ => ?_⟩
          refine hw _ _ _ (l.trans l2) s2 (ERep.unset ?_)
          have er : Rep X.K (ι' ++ [ad]) (upd H' ad (Gn.exV (xc c) ad)) (.ref S1.length) (.ref ad) := ⟨ad, rfl, by rw [s1.len, List.getElem?_append_right (Nat.le_refl _)]; simp⟩
          exact ((e1.mono l2).set er).set er
        · rw [if_neg hl] at hw
          exact hw.elim
      · rw [if_neg (by rw [hh]; exact Bool.false_ne_true)] at hw
        exact hw σ' H' ι' l s1 e1
  | ex c S1 => rw [er] at hw; exact hw.elim
  | no => rw [er] at hw; exact hw.elim
theorem ztryK {x n y : Str} {body : List Stmt} {np p1 p2 sp pos' : Pos} {q : Nat → Bool} {m : Nat} {nm : Nat → Str} {a : DenS} (c i j : Nat) (F : Dv.ExcC X.K X.mg x (xc c)) (hq : ∀ i, PySem.W.exmOne X.K (gx xc i) (.ref (xc c)) = some (q i)) (hn : ∀ c, c < m → PySem.W.nsIn X.K mainGlobals (nm c) = some (some (.ref (xc c))) ∧ Gn.ExcD X.K (xc c)) (tk : Takes X W) (hN : X.N.Nodup)
    (hb : ∀ (W' : WX) (pn : List (Addr × Obj)) (xe : Value → Shared → Prop), Takes (X.tr pn xe) W' → PassesOwn (model X.prog X.w) X.A X.env xe → PSs (X.tr pn xe) body (semS ⟨X.K, tabs⟩ (exE (gx xc) W') lv a))
    (hy : X.env.scope.names.lookup y = some .local := by rfl) (hi : X.N[i]? = some n := by rfl) (hj : X.N[j]? = some y := by rfl) (hln : X.env.kindOf n = some .local := by rfl) (hs : X.stack = X.env :: X.outer := by rfl) (hf : X.env.frame = some X.env.locals := by rfl) (hg : Gl X x := by rfl) (hdb : (x == ("__debug__" : Str)) = false := by decide)
    (hd : (n == ("__debug__" : Str)) = false := by decide) (hcd : (n == ("__classdict__" : Str)) = false := by decide) (hsw : swapsWith (.Name n p2) (some (.Name y p1)) sp.line X.env = pure false := by rfl) :
    PS X (.Try body [.ExceptHandler (some (.Name x np)) (some n) [.Assign [.Name y p1] (.Name n p2) sp] pos'] [] [] pos) (semS ⟨X.K, tabs⟩ (exE (gx xc) W) lv (sTryK m q nm i j a)) :=
  sd_tryK hs hf hN hi hln ⟨hg, hdb, .inl F.gC⟩ tk hq hn hb fun ad pn => pss_one (ps_set (X := X.suite ad pn) hN hj (.inl hy) (pe_var hi (.inl hln) hd hcd) hsw (.inr hy))
end
/-! ### isinstance(e, X), isinstance(e, (X, Y, ..)) of such -/
def xcK (m : Nat) (qn : Nat → Bool) (nm : Nat → Str) (S : Sto) : Option O → R D
  | some (.xc x j) => if nm j = x ∧ j < m then .ok (.bl (qn j)) S else .no
  | _ => .no
def isxK (m : Nat) (qn : Nat → Bool) (nm : Nat → Str) (d : D) (S : Sto) : R D := match d with
  | .ref i => xcK m qn nm S S[i]?
  | _ => .no
def dIsx (m : Nat) (qn : Nat → Bool) (nm : Nat → Str) (a : Den) : Den := fun lv ρ S => (a lv ρ S).bind (isxK m qn nm)
/-- one of several classes -/
def isA (q : Nat → Nat → Bool) (is : List Nat) : Nat → Bool := fun j => is.any fun i => q i j
def tVs (vs : List V) : TA := fun _ H Q => Q vs H
section
variable {X : Cx} {EX : EXT} {lv : Lv} {tabs : List Tb} {xc : Nat → Addr} {m : Nat} {nm : Nat → Str} {a : Expr} {da : Den} {x : Str} {p p2 p3 p4 pos : Pos}
theorem pa_vs0 : PA X [] (tVs []) := PA.imp pa_nil fun _ _ _ h => h
theorem pa_vsc {es : List Expr} {vs : List V} {C : Addr} (hm : X.mg x = some (.ref C)) (r : PA X es (tVs vs)) (hg : Gl X x := by rfl) (hd : (x == ("__debug__" : Str)) = false := by decide) (hst : starEach (.Name x p :: es) X.env = (false, eval (.Name x p) X.env) :: starEach es X.env := by rfl) :
    PA X (.Name x p :: es) (tVs (.ref C :: vs)) := PA.imp (pa_cons (pe_glob (v := .ref C) hg hm rfl hd) r hst) fun _ _ _ h => h
theorem pa_vst {es : List Expr} {vs : List V} {T : String} (hm : X.mg x = none) (hv : bootBuiltins x = some (.type T)) (r : PA X es (tVs vs)) (hn : x ≠ "__name__" := by decide) (hg : Gl X x := by rfl) (hd : (x == ("__debug__" : Str)) = false := by decide) (hst : starEach (.Name x p :: es) X.env = (false, eval (.Name x p) X.env) :: starEach es X.env := by rfl) :
    PA X (.Name x p :: es) (tVs (.ty T :: vs)) := PA.imp (pa_cons (pe_bltn (v := .ty T) hg hm hv rfl hn hd) r hst) fun _ _ _ h => h
theorem isx_rep {ι : List Addr} {S : Sto} {H : Hp} {d : D} {v : V} {qn : Nat → Bool} {Q : D → Sto → Prop} {W : Nat → Sto → Prop} (hn : ∀ c, c < m → PySem.W.nsIn X.K mainGlobals (nm c) = some (some (.ref (xc c))) ∧ Gn.ExcD X.K (xc c)) (s : SRep X.K tabs ι S H) (r : Rep X.K ι H d v) (h : (isxK m qn nm d S).wp Q W) :
    ∃ j, j < m ∧ Gn.TyW X.K H v (.ref (xc j)) ∧ Q (.bl (qn j)) S := by
  unfold isxK at h
  cases d with
  | ref i =>
    dsimp only at h
    cases e : S[i]? with
    | none => rw [e] at h; exact h.elim
    | some o =>
      rw [e] at h
      cases o with
      | xc y j =>
        have h : (if nm j = y ∧ j < m then R.ok (D.bl (qn j)) S else .no).wp Q W := h
        by_cases ey : nm j = y ∧ j < m
        · rw [if_pos ey] at h
          obtain ⟨ad, rfl, ha⟩ := r
          obtain ⟨C, h1, h2, h3⟩ := s.obj i _ ad e ha
          rw [← ey.1, (hn j ey.2).1] at h2
          cases h2
          exact ⟨j, ey.2, .inr (.inr ⟨ad, _, rfl, h1, h3.e, rfl⟩), h⟩
        · rw [if_neg ey] at h
          exact h.elim
      | lst w xs => exact h.elim
      | dk kvs => exact h.elim
      | dt kvs => exact h.elim
      | dn kvs => exact h.elim
      | ob c fs => exact h.elim
  | non => exact h.elim
  | bl b => exact h.elim
  | int z => exact h.elim
  | str z => exact h.elim
  | tup xs => exact h.elim
/-- of one class -/
theorem xisx {qn : Nat → Bool} {e : Expr} {c : V} {cv : Value} (hn : ∀ c, c < m → PySem.W.nsIn X.K mainGlobals (nm c) = some (some (.ref (xc c))) ∧ Gn.ExcD X.K (xc c)) (kc : ClsV c cv) (hq : ∀ j, j < m → PySem.W.kitOne X.K (.ref (xc j)) cv = some (qn j)) (hm : X.mg "isinstance" = none) (ha : PE X a (semE ⟨X.K, tabs⟩ EX lv da)) (hc : PA X [e] (tVs [c]))
    (hg : Gl X "isinstance" := by rfl) (he : starEach [a, e] X.env = (false, eval a X.env) :: starEach [e] X.env := by rfl) (hpl : (backTo pos (starEach [e] X.env)).any (·.1) = false := by rfl) :
    PE X (.Call (.Name "isinstance" p) [a, e] [] pos) (semE ⟨X.K, tabs⟩ EX lv (dIsx m qn nm da)) := by
  refine PE.imp (pe_callB Gn.call_isiW hg hm bi_isinstance (pa_cons ha hc he) (by decide) (by decide) he hpl) fun σ H Q h => ?_
  obtain ⟨ρ, S, ι, h0, hs, hw⟩ := h
  refine stepE (Po := fun ι H => PV ⟨X.K, tabs⟩ ι H Q) h0 hs (fun l q => q.mono l) hw fun x S1 v H1 ι1 l1 s1 r1 e1 h1 => ?_
  obtain ⟨j, jm, ty, q⟩ := isx_rep hn s1 r1 h1
  exact ⟨v, c, _, cv, qn j, rfl, kc, ty, hq j jm, PV.now q s1 rfl⟩
theorem kitAny_map {K : PySem.W.Frag} {t : Value} {q : Nat → Bool} {cv : Nat → Value} : ∀ {is : List Nat}, (∀ i ∈ is, PySem.W.kitOne K t (cv i) = some (q i)) → PySem.W.kitAny K t (is.map cv) = some (is.any q)
  | [], _ => kitAny_nil
  | i :: is, h => by
    refine kitAny_cons (h i List.mem_cons_self) (fun e => ?_) fun e => ?_
    · rw [List.any_cons, e, Bool.false_or]
      exact kitAny_map fun j hj => h j (List.mem_cons_of_mem _ hj)
    · rw [List.any_cons, e, Bool.true_or]
theorem paired_own {xc : Nat → Addr} : ∀ is : List Nat, Paired ClsV (is.map fun i => V.ref (xc i)) (is.map fun i => Value.ref (xc i))
  | [] => .nil
  | _ :: is => .cons (.own _) (paired_own is)
/-- of several own classes -/
theorem xisxs {q : Nat → Nat → Bool} {is : List Nat} {es : List Expr} {k : Nat} (hn : ∀ c, c < m → PySem.W.nsIn X.K mainGlobals (nm c) = some (some (.ref (xc c))) ∧ Gn.ExcD X.K (xc c)) (hq : ∀ i ∈ is, ∀ j, j < m → PySem.W.kitOne X.K (.ref (xc j)) (.ref (xc i)) = some (q i j)) (hm : X.mg "isinstance" = none) (ha : PE X a (semE ⟨X.K, tabs⟩ EX lv da)) (hc : PA X es (tVs (is.map fun i => .ref (xc i))))
    (hl : is.length ≤ sizeLine := by decide) (hg : Gl X "isinstance" := by rfl) (he : starEach [a, .Tuple es k p4] X.env = (false, eval a X.env) :: starEach [.Tuple es k p4] X.env := by rfl) (he2 : starEach [.Tuple es k p4] X.env = (false, eval (.Tuple es k p4) X.env) :: starEach [] X.env := by rfl) (hpl : (backTo pos (starEach [.Tuple es k p4] X.env)).any (·.1) = false := by rfl) :
    PE X (.Call (.Name "isinstance" p) [a, .Tuple es k p4] [] pos) (semE ⟨X.K, tabs⟩ EX lv (dIsx m (isA q is) nm da)) := by
  refine PE.imp (pe_callB Gn.call_isiV hg hm bi_isinstance (pa_cons ha (pa_cons (pe_tup hc) pa_nil he2) he) (by decide) (by decide) he hpl) fun σ H Q h => ?_
  obtain ⟨ρ, S, ι, h0, hs, hw⟩ := h
  refine stepE (Po := fun ι H => PV ⟨X.K, tabs⟩ ι H Q) h0 hs (fun l q => q.mono l) hw fun x S1 v H1 ι1 l1 s1 r1 e1 h1 => ?_
  refine ⟨by rw [List.length_map]; exact hl, fun tp hp => ?_⟩
  have l2 := le_upd (ι := ι1) (u := .tup (is.map fun i => V.ref (xc i))) hp
  have s2 := s1.extra (u := .tup (is.map fun i => V.ref (xc i))) hp
  obtain ⟨j, jm, ty, qq⟩ := isx_rep (tabs := tabs) hn s2 (Rep.mono l2 _ _ r1) h1
  refine ⟨v, tp, is.map fun i => V.ref (xc i), _, is.map fun i => Value.ref (xc i), is.any fun i => q i j, rfl, upd_same, ?_, ty, kitAny_map fun i hi => hq i hi j jm, qq _ _ ι1 l2 s2 rfl⟩
  exact paired_own is
end
end Dv

/-! bool(x), str(x) of whole numbers -/
namespace Dv
open PySem PySem.Spec PyProof.Rows L2 Gr
def boolD : OpN
  | [.int i], S => .ok (.bl (i != 0)) S
  | [.bl b], S => .ok (.bl b) S
  | _, _ => .no
def strD : OpN
  | [.int i], S => if -1000000000000000000 < i ∧ i < 1000000000000000000 then .ok (.str (toString i)) S else .no
  | _, _ => .no
section
variable {X : Cx} {EX : EXT} {lv : Lv} {tabs : List Tb} {e : Expr} {es : List Expr} {ra : DenA} {p pos : Pos}
end
end Dv

namespace Gr
open PySem PySem.Spec PyProof.Rows L2 LamX
/-- the modules' dict stands apart -/
def SysB (base : Heap) : Prop := ∃ m, base.Ns sysModules m
section
variable {P : Program} {w : World} {K : PySem.W.Frag} {mg mb : Str → Option Value} {CX : CXT} {k : Nat} {fa sa : Addr} {tb : List (Addr × Addr)} {fd : FuncData} {x : Str} {sp : Sp} {t0 : Shared} {us : List Value} {ns : List Int}
theorem Bare.toldH {H : Hp} (h : Ahead K mg mb tb sa us t0) (hb : Bare P w K tb sa t0 H) (sy : SysB t0.heap) (rm : RoomG k callerA)
    (F : ∀ base : Heap, K.In base → base.Ns mainGlobals mg → (∀ p ∈ tb, TabB base mg p.1 p.2) → SysB base → FnG P w K mg base CX k fa fd [x] sp) (bd : ∀ (t : Shared) (u : Value), BindsTo t fd ⟨[u], []⟩ [(x, u)])
    (q : sp [.ref sa] H (fun v _ => v = .bl true) fun _ _ _ => False) (nx : ∀ H e t, CX [] H t0 (fun _ _ _ => False) e t → False) :
    codeAny (model P w) callerA (.call (.ref fa) ⟨[.ref sa], []⟩) (Told t0) t0 := by
  have en : Env0 P w K mg (hidT t0.heap H) callerA [] t0 H :=
    { frames := rfl, mod := hb.mod h, bs := fun _ _ z => of_hidT z, bsz := Nat.le_of_eq (hidT_size _ _), funs := trivial, frf := (fun b z => by cases z), hok := hb.ok, bare := .of_eq h.gens }
  have go := (F _ (hb.kin h) (hb.keep h h.main) (fun p hp => hb.tabB h hp) (let ⟨m, e⟩ := sy; ⟨m, hb.keep h e⟩)).run callerA [] t0 H ⟨[.ref sa], []⟩ [.ref sa] [.ref sa] _ _ rm en (bd t0 (.ref sa)) (.cons rfl .nil) q
  apply codeAny_mono go
  intro r t z
  match r, z with
  | .error e, z => exact (nx H e t z).elim
  | .ok .next, z => exact z.elim
  | .ok .brk, z => exact z.elim
  | .ok .cont, z => exact z.elim
  | .ok (.ret u), ⟨v, H', z1, z2, un, ok', rv, qv⟩ =>
    have qv : v = .bl true := qv
    subst qv
    cases (show u = Value.bool true from rv)
    have same : ∀ b o, (∀ p ∈ tb, p.2 ≠ b) → t0.heap.get? b = some o → t.heap.get? b = some o := by
      intro b o nt e
      match q : H b with
      | none => exact un.keep b o e q (fun z => by cases z) (by simp)
      | some u =>
        rcases hb.only b u q with ⟨p, hp, e1⟩ | ⟨_, _, ob, ys, rfl⟩
        · exact absurd e1 (nt p hp)
        · obtain ⟨g1, _⟩ := hb.ok b _ q
          obtain ⟨g2, _⟩ := ok' b _ (un.frzs b ob _ q)
          rw [g1] at e
          cases e
          exact g2
    have more : ∀ p ∈ tb, ∃ ar : Array Value, t.heap.get? p.2 = some { cls := .none, data := .fields ar } := by
      intro p hp
      obtain ⟨ar, z⟩ := un.tbls p.2 #[] (hb.tab p hp)
      exact ⟨_, ok' p.2 _ z⟩
    have two : ∀ b, (∃ p ∈ tb, p.2 = b) ∨ ∀ p ∈ tb, p.2 ≠ b := fun b => by
      by_cases z : ∃ p ∈ tb, p.2 = b
      · exact .inl z
      · exact .inr fun p hp e => z ⟨p, hp, e⟩
    refine ⟨rfl, ⟨?_, ?_⟩, z1, z2⟩
    · intro b o e
      rcases two b with ⟨p, hp, rfl⟩ | nt
      · obtain ⟨ar, ha⟩ := more p hp
        have e2 := (h.tabs p hp).symm.trans e
        cases e2
        exact .inr (.inl ⟨((h.heads p hp).tab (h.tabs p hp)).isCodeTable, rfl, #[], ar, rfl, by simpa using ha⟩)
      · exact .inl (same b o nt e)
    · intro b o e
      rcases two b with ⟨p, hp, rfl⟩ | nt
      · obtain ⟨ar, ha⟩ := more p hp
        exact ⟨_, ha⟩
      · exact ⟨o, same b o nt e⟩
open Classical in
theorem law_callH (h : Ahead K mg mb tb sa us t0) (sy : SysB t0.heap) (hi : IntsAre us ns) (hl : ns.length ≤ sizeLine) (rm : RoomG k callerA)
    (F : ∀ base : Heap, K.In base → base.Ns mainGlobals mg → (∀ p ∈ tb, TabB base mg p.1 p.2) → SysB base → FnG P w K mg base CX k fa fd [x] sp) (bd : ∀ (t : Shared) (u : Value), BindsTo t fd ⟨[u], []⟩ [(x, u)])
    (q : ∀ H : Hp, (∀ p ∈ tb, H p.2 = some (.tbl #[])) → SqL K H sa (ns.map V.int) → sp [.ref sa] H (fun v _ => v = .bl true) fun _ _ _ => False) (nx : ∀ H e t, CX [] H t0 (fun _ _ _ => False) e t → False) :
    codeAny (model P w) callerA (.call (.ref fa) ⟨[.ref sa], []⟩) (Told t0) t0 := by
  have rv := vals_ints hi
  have ns1 : ¬ ∃ p ∈ tb, p.2 = sa := by
    rintro ⟨p, hp, rfl⟩
    have z := (h.tabs p hp).symm.trans h.scr
    cases z
  match hk : K.lookup sa with
  | some o =>
    have e := h.scr.symm.trans (h.kin sa o hk)
    cases e
    let H : Hp := fun b => if ∃ p ∈ tb, p.2 = b then some (.tbl #[]) else none
    have hH : ∀ p ∈ tb, H p.2 = some (.tbl #[]) := fun p hp => if_pos ⟨p, hp, rfl⟩
    have cs : ∀ b u, H b = some u → (∃ p ∈ tb, p.2 = b) ∧ u = .tbl #[] := fun b u z => by
      by_cases c : ∃ p ∈ tb, p.2 = b
      · rw [show H b = some (.tbl #[]) from if_pos c] at z
        cases z
        exact ⟨c, rfl⟩
      · rw [show H b = none from if_neg c] at z
        cases z
    have hb : Bare P w K tb sa t0 H := by
      refine ⟨hH, fun b u z => .inl (cs b u z).1, fun b u z => ?_⟩
      obtain ⟨⟨p, hp, rfl⟩, rfl⟩ := cs b u z
      exact h.tabs p hp
    refine hb.toldH h sy rm F bd (q H hH (.inr ⟨_, us.toArray, _, hk, rfl, rfl, rfl, ?_, by simpa using rv⟩)) nx
    exact (show us.toArray.size ≤ sizeLine by simpa [hi.length] using hl)
  | none =>
    let H : Hp := fun b => if b = sa then some (.frz { cls := .type "list", data := .seq us.toArray } (.lst (ns.map V.int))) else if ∃ p ∈ tb, p.2 = b then some (.tbl #[]) else none
    have hS : H sa = some (.frz { cls := .type "list", data := .seq us.toArray } (.lst (ns.map V.int))) := if_pos rfl
    have hH : ∀ p ∈ tb, H p.2 = some (.tbl #[]) := fun p hp => (if_neg fun z => ns1 ⟨p, hp, z⟩).trans (if_pos ⟨p, hp, rfl⟩)
    have cs : ∀ b u, H b = some u → ((∃ p ∈ tb, p.2 = b) ∧ u = .tbl #[]) ∨ (b = sa ∧ u = .frz { cls := .type "list", data := .seq us.toArray } (.lst (ns.map V.int))) := fun b u z => by
      by_cases c0 : b = sa
      · subst c0
        rw [hS] at z
        cases z
        exact .inr ⟨rfl, rfl⟩
      by_cases c : ∃ p ∈ tb, p.2 = b
      · rw [show H b = some (.tbl #[]) from (if_neg c0).trans (if_pos c)] at z
        cases z
        exact .inl ⟨c, rfl⟩
      · rw [show H b = none from (if_neg c0).trans (if_neg c)] at z
        cases z
    have hb : Bare P w K tb sa t0 H := by
      refine ⟨hH, fun b u z => ?_, fun b u z => ?_⟩
      · rcases cs b u z with ⟨c, _⟩ | ⟨c, rfl⟩
        · exact .inl c
        · exact .inr ⟨c, hk, _, _, rfl⟩
      · rcases cs b u z with ⟨⟨p, hp, rfl⟩, rfl⟩ | ⟨rfl, rfl⟩
        · exact h.tabs p hp
        · exact ⟨h.scr, by rw [List.length_map]; exact hl, us, _, rv, h.scr⟩
    exact hb.toldH h sy rm F bd (q H hH (.inl (.inr ⟨_, hS⟩))) nx
end
end Gr
namespace Dv
open PySem PySem.Spec PyProof.Rows L2 Gr
theorem _root_.Gr.SysB.ne {X : Cx} {pins : List (Addr × Obj)} {σ : L2.St} {H : Hp} {s : Shared} (h : SysB X.base) (I : Inv X pins σ H s) {a : Addr} {its : Array Value} (q : PlainL s.heap a its) : a ≠ sysModules := by
  rintro rfl
  obtain ⟨m, o, es, ep, e1, e2, _⟩ := h
  obtain ⟨o2, n, f1, _, _, f2⟩ := q
  rw [I.bk _ _ e1] at f1
  cases f1
  rw [e2] at f2
  cases f2
/-- it can be shown, lists and dicts within one another -/
def fitQ (p : PyData) : Bool := p.showable && p.leavesShort 64 && decide (p.weight ≤ 100000) && decide (p.depth ≤ 60)
def reprE : OpN
  | [d], S => match toR S 1000 d with
    | some p => if fitQ p = true then .ok (.str p.shown) S else .no
    | none => .no
  | _, _ => .no
section
variable {X : Cx} {tabs : List Tb} {pins : List (Addr × Obj)} {σ : L2.St} {H : Hp} {s : Shared} {ι : List Addr} {S : Sto}
mutual
theorem toR_readsQ (I : Inv X pins σ H s) (sm : SysB X.base) (hs : SRep X.K tabs ι S H) : ∀ (n : Nat) (d : D) (p : PyData) (v : V) (u : Value), toR S n d = some p → Rep X.K ι H d v → RelV v u → ∃ as, Reads s.heap u p as ∧ sysModules ∉ as
  | 0, _, _, _, _, e, _, _ => by cases e
  | _ + 1, .non, _, _, _, e, r, q => by
    cases e; cases r; cases q
    exact ⟨_, .none, by simp⟩
  | _ + 1, .bl b, _, _, _, e, r, q => by
    cases e; cases r; cases q
    exact ⟨_, .bool b, by simp⟩
  | _ + 1, .int i, _, _, _, e, r, q => by
    cases e; cases r
    obtain ⟨t, rfl⟩ := q
    exact ⟨_, .int i t, by simp⟩
  | _ + 1, .str x, _, _, _, e, r, q => by
    cases e; cases r
    obtain ⟨t, rfl⟩ := q
    exact ⟨_, .str x t, by simp⟩
  | n + 1, .tup ds, p, v, u, e, r, q => by
    obtain ⟨a, vs, rfl, r1, r2⟩ := r
    unfold toR at e
    obtain ⟨ps, e1, rfl⟩ := Option.map_eq_some_iff.mp e
    cases q
    obtain ⟨its, rv, ⟨o, ho, hc, m, hd⟩, _⟩ := I.tuple r1.t
    obtain ⟨as, z1, z2⟩ := toRs_readsQ I sm hs n ds ps vs its e1 r2 rv
    exact ⟨as, .tuple ho hc hd (by simpa using z1), z2⟩
  | n + 1, .ref i, p, v, u, e, r, q => by
    obtain ⟨a, rfl, r1⟩ := r
    cases q
    unfold toR at e
    split at e
    · rename_i b ds e0
      obtain ⟨ps, e1, rfl⟩ := Option.map_eq_some_iff.mp e
      obtain ⟨a', vs, ha, hq, r2⟩ := hs.list e0
      rw [r1] at ha
      cases ha
      obtain ⟨its, rv, pl, _⟩ := I.list hq
      have na := sm.ne I pl
      obtain ⟨o, m, ho, hc, _, hd⟩ := pl
      obtain ⟨as, z1, z2⟩ := toRs_readsQ I sm hs n ds ps vs its e1 r2 rv
      exact ⟨a :: as, .list ho hc hd (by simpa using z1), fun k => by
        rcases List.mem_cons.mp k with k | k
        · exact na k.symm
        · exact z2 k⟩
    · rename_i e0
      cases e
      obtain ⟨ws, k1, k2, k3⟩ := hs.obj i _ a e0 r1
      have ew : ws = [] := by
        cases ws with
        | nil => rfl
        | cons _ _ => simp at k2
      subst ew
      obtain ⟨_, hS, vs, kv, o, es, ep, g1, g2, g3, _, g4, _⟩ := I.hok a _ k1
      cases kv
      have ee : es = #[] := by
        cases q : es.toList with
        | nil => simpa using q
        | cons e0 r0 => rw [q] at g4; cases g4
      subst ee
      refine ⟨_, .dict (kvs := []) g1 g2.1 g3 .nil .nil, ?_⟩
      have : a ≠ sysModules := by simpa using hS
      simpa using this.symm
    · cases e
theorem toRs_readsQ (I : Inv X pins σ H s) (sm : SysB X.base) (hs : SRep X.K tabs ι S H) : ∀ (n : Nat) (ds : List D) (ps : List PyData) (vs : List V) (us : List Value), toRs S n ds = some ps → RepL X.K ι H ds vs → Vals vs us → ∃ as, ReadsAll s.heap us ps as ∧ sysModules ∉ as
  | n, [], ps, vs, us, e, r, q => by
    have r : vs = [] := r
    subst r
    cases q
    have e2 : ps = [] := by cases n <;> (cases e; rfl)
    subst e2
    exact ⟨_, .nil, by simp⟩
  | 0, _ :: _, _, _, _, e, _, _ => by cases e
  | n + 1, d :: ds, ps, vs, us, e, r, q => by
    obtain ⟨v, rr, rfl, q1, q2⟩ := r
    unfold toRs at e
    split at e
    · rename_i p qs e1 e2
      cases e
      cases q with
      | cons w1 w2 =>
        obtain ⟨as, z1, z2⟩ := toR_readsQ I sm hs n d p v _ e1 q1 w1
        obtain ⟨bs, y1, y2⟩ := toRs_readsQ I sm hs n ds qs rr _ e2 q2 w2
        refine ⟨_, .cons z1 y1, ?_⟩
        rw [List.mem_append]
        rintro (c | c)
        · exact z2 c
        · exact y2 c
    · cases e
end
end
theorem fit_partsQ {p : PyData} (h : fitQ p = true) : p.showable = true ∧ p.shown.length ≤ sizeLine ∧ p.depth ≤ 60 := by
  unfold fitQ at h
  simp only [Bool.and_eq_true, Bool.or_eq_true, Bool.not_eq_true', decide_eq_true_eq] at h
  obtain ⟨⟨⟨h1, h3⟩, h4⟩, h5⟩ := h
  refine ⟨h1, ?_, h5⟩
  · have := PyData.shown_le 64 (by decide) p h3
    have hs := sizeLine_eq
    omega
section
variable {X : Cx} {tabs : List Tb}
end
section
variable {X : Cx} {EX : EXT} {lv : Lv} {tabs : List Tb} {e : Expr} {es : List Expr} {ra : DenA} {p pos : Pos}
end
/-- what is wanted of the law's def -/
def LawH (l : PySem.W.OpenLaw) (w : World) (K : PySem.W.Frag) (CX : CXT) (k n : Nat) (x : Str) (mg : Str → Option Value) (fa : Addr) (h : Heap) : Prop :=
  ∃ (fd : FuncData) (tb : List (Addr × Addr)) (sp : Sp), (∀ p ∈ tb, h.get? p.2 = some { cls := .none, data := .fields #[] }) ∧ (∀ p ∈ tb, K.lookup p.2 = none) ∧ (∀ p ∈ tb, PySem.W.CodeHd h p.1 p.2) ∧ (∀ (t : Shared) (u : Value), BindsTo t fd ⟨[u], []⟩ [(x, u)]) ∧
    (∀ (H : Hp) (a : Addr) (ns : List Int), ns.length ≤ n → (∀ z ∈ ns, Builtin.Int.intBits z ≤ 1048576) → (∀ p ∈ tb, H p.2 = some (.tbl #[])) → SqL K H a (ns.map V.int) → sp [.ref a] H (fun v _ => v = .bl true) fun _ _ _ => False) ∧
    ∀ base : Heap, K.In base → base.Ns mainGlobals mg → (∀ p ∈ tb, LamX.TabB base mg p.1 p.2) → SysB base → FnG l.prog w K mg base CX k fa fd [x] sp
theorem walk_allH {l : PySem.W.OpenLaw} {n k : Nat} {q : Program} {loose : List Str} {XP : (Str → Option Value) → Heap → Prop} {YP : World → Heap → Prop} {d : DefRec} {K : Params → PySem.W.Frag} {CX : World → CXT} {x : Str} (xs : List Str)
    (him : importsNone q = true) (hn : l.most = some n) (hn2 : n ≤ sizeLine) (hdf : d.params.defaults = []) (hr : RoomG k callerA) (hrec : (xs.all fun y => (recsOf q).any fun e => e.name == y) = true) (hY : ∀ (w : World) (h : Heap), YP w h → (K w.params).In h)
    (F : ∀ (w : World) (mg : Str → Option Value) (fa : Addr) (h : Heap), YP w h → (K w.params).In h → h.Ns mainGlobals mg → mg d.name = some (.ref fa) → TabsAt (K w.params) mg h xs → LawH l w (K w.params) (CX w) k n x mg fa h)
    (hCX : ∀ (w : World) (H : Hp) (s : Shared) (e : Value) (s' : Shared), CX w [] H s (fun _ _ _ => False) e s' → False) :
    PySem.W.WalkO q loose XP YP l.row.toRowW d [] (fun f vs => PySem.call f vs) := by
  refine Att.attach_callB hn hdf fun w s0 s1 mg mb fa o pm cd doc a vs ns G Y ho hd hcd hmg hobj hints hlen hbits hg => ?_
  have X0 := hY w _ Y
  have sy : SysB s1.heap := let ⟨m, e, _⟩ := (G.T.seer him).mods; ⟨m, e⟩
  have tb : TabsAt (K w.params) mg s1.heap xs := by
    intro y hy f hf c P o1 fd1 e dd vs1 sl k1 k2 k3 k4 k5
    obtain ⟨r, hm, hr1⟩ := List.any_eq_true.mp (List.all_eq_true.mp hrec y hy)
    obtain ⟨a', o', fd', c', P', t1, t2, t3, t4, t5, t6⟩ := G.T.tab r hm
    have er : r.name = y := beq_iff_eq.mp hr1
    rw [er, hf] at t1
    cases t1
    rw [X0 _ _ k1] at t2
    cases t2
    rw [k2] at t3
    cases t3
    rw [k3] at t4
    cases t4
    obtain ⟨⟨oc, vc, u1, u2, u3, u4⟩, hP⟩ := t6
    rw [X0 _ _ k4] at u1
    cases u1
    cases u3
    rw [k5] at u4
    cases u4
    exact hP
  obtain ⟨fd, cs, sp, hT, nT, C, hb, hsp, hF⟩ := F w mg fa _ Y X0 G.T.g hmg tb
  exact Gr.law_callH ⟨X0, G.T.g, G.T.b, G.T.builtins, G.T.nolimit, hg, hT, nT, C, G.T.bmain, hobj⟩ sy hints (Nat.le_trans hlen hn2) hr hF hb (fun H hH hS => hsp H a ns hlen hbits hH hS) fun H e s' => hCX w H s1 e s'
end Dv

namespace Dv
open PySem PySem.Spec PyProof.Rows L2 Gr
/-! ### dicts shown, what stands in them too -/
def keyP : Key → PyData
  | .inl i => .int i
  | .inr x => .str x
mutual
def toF (S : Sto) : Nat → D → Option PyData
  | 0, _ => none
  | _ + 1, .non => some .none
  | _ + 1, .bl b => some (.bool b)
  | _ + 1, .int i => some (.int i)
  | _ + 1, .str x => some (.str x)
  | n + 1, .tup ds => (toFs S n ds).map .tuple
  | n + 1, .ref i => match S[i]? with
    | some (.lst _ ds) => (toFs S n ds).map .list
    | some (.dk kvs) => (toFs S n (kvs.map (·.2))).map fun ps => .dict ((kvs.map fun x => keyP x.1).zip ps)
    | some (.dn kvs) => (toFs S n (kvs.map (·.1))).bind fun ks => (toFs S n (kvs.map (·.2))).map fun ps => .dict (ks.zip ps)
    | _ => none
def toFs (S : Sto) : Nat → List D → Option (List PyData)
  | _, [] => some []
  | 0, _ :: _ => none
  | n + 1, d :: ds => match toF S n d, toFs S n ds with
    | some p, some ps => some (p :: ps)
    | _, _ => none
end
def reprF : OpN
  | [d], S => match toF S 1000 d with
    | some p => if fitQ p = true then .ok (.str p.shown) S else .no
    | none => .no
  | _, _ => .no
theorem toFs_len {S : Sto} : ∀ {n : Nat} {ds : List D} {ps : List PyData}, toFs S n ds = some ps → ps.length = ds.length
  | n, [], ps, e => by
    have : ps = [] := by cases n <;> (cases e; rfl)
    rw [this]; rfl
  | 0, _ :: _, _, e => by cases e
  | n + 1, d :: ds, ps, e => by
    unfold toFs at e
    split at e
    · rename_i p qs e1 e2
      cases e
      rw [List.length_cons, List.length_cons, toFs_len e2]
    · cases e
theorem reads_keys {P : Program} {w : World} {h : Heap} : ∀ {es : List DictEntry} {vs : List (Key × Value)}, Pairs (mixKind P w) es vs → ReadsAll h (es.map (·.key)) (vs.map fun x => keyP x.1) []
  | _, _, .nil => .nil
  | e :: es, kv :: vs, .cons a b c => by
    have r := reads_keys (h := h) c
    obtain ⟨k, v⟩ := kv
    rcases keyIs_shape (k := k) (v := e.key) a with ⟨i, t, e1, e2⟩ | ⟨x, t, e1, e2⟩
    · have z : Reads h e.key (keyP k) [] := by rw [e2, show k = Sum.inl i from e1]; exact .int i t
      exact ReadsAll.cons z r
    · have z : Reads h e.key (keyP k) [] := by rw [e2, show k = Sum.inr x from e1]; exact .str x t
      exact ReadsAll.cons z r
theorem pairs_val {P : Program} {w : World} : ∀ {es : List DictEntry} {vs : List (Key × Value)}, Pairs (mixKind P w) es vs → es.map (·.val) = vs.map (·.2)
  | _, _, .nil => rfl
  | e :: es, kv :: vs, .cons a b c => by rw [List.map_cons, List.map_cons, pairs_val c, b]
theorem kv_vals : ∀ {ws : List (Key × V)} {vs : List (Key × Value)}, KV ws vs → Vals (ws.map (·.2)) (vs.map (·.2)) ∧ ws.map (·.1) = vs.map (·.1)
  | _, _, .nil => ⟨.nil, rfl⟩
  | _, _, .cons r t => by
    obtain ⟨a, b⟩ := kv_vals t
    exact ⟨.cons r.2 a, by rw [List.map_cons, List.map_cons, b, r.1]⟩
theorem pe_vals : ∀ {ws : List Gn.Ent} {xs : List (NestedKey × Addr × Value)}, Paired Gn.PE2 ws xs → Vals (ws.map fun x => V.ref x.2.1) (xs.map fun x => Value.ref x.2.1) ∧ Vals (ws.map (·.2.2)) (xs.map (·.2.2))
  | _, _, .nil => ⟨.nil, .nil⟩
  | _, _, .cons r t => by
    obtain ⟨a, b⟩ := pe_vals t
    obtain ⟨_, r2, r3⟩ := r
    refine ⟨.cons ?_ a, .cons r3 b⟩
    show Value.ref _ = Value.ref _
    rw [r2]
theorem zip_1 {ps qs : List PyData} (h : ps.length = qs.length) : (ps.zip qs).map (·.1) = ps := by
  rw [show (fun x : PyData × PyData => x.1) = Prod.fst from rfl, List.map_fst_zip (by omega)]
theorem zip_2 {ps qs : List PyData} (h : ps.length = qs.length) : (ps.zip qs).map (·.2) = qs := by
  rw [show (fun x : PyData × PyData => x.2) = Prod.snd from rfl, List.map_snd_zip (by omega)]
section
variable {X : Cx} {tabs : List Tb} {pins : List (Addr × Obj)} {σ : L2.St} {H : Hp} {s : Shared} {ι : List Addr} {S : Sto}
mutual
theorem toF_readsQ (I : Inv X pins σ H s) (sm : SysB X.base) (hs : SRep X.K tabs ι S H) : ∀ (n : Nat) (d : D) (p : PyData) (v : V) (u : Value), toF S n d = some p → Rep X.K ι H d v → RelV v u → ∃ as, Reads s.heap u p as ∧ sysModules ∉ as
  | 0, _, _, _, _, e, _, _ => by cases e
  | _ + 1, .non, _, _, _, e, r, q => by
    cases e; cases r; cases q
    exact ⟨_, .none, by simp⟩
  | _ + 1, .bl b, _, _, _, e, r, q => by
    cases e; cases r; cases q
    exact ⟨_, .bool b, by simp⟩
  | _ + 1, .int i, _, _, _, e, r, q => by
    cases e; cases r
    obtain ⟨t, rfl⟩ := q
    exact ⟨_, .int i t, by simp⟩
  | _ + 1, .str x, _, _, _, e, r, q => by
    cases e; cases r
    obtain ⟨t, rfl⟩ := q
    exact ⟨_, .str x t, by simp⟩
  | n + 1, .tup ds, p, v, u, e, r, q => by
    obtain ⟨a, vs, rfl, r1, r2⟩ := r
    unfold toF at e
    obtain ⟨ps, e1, rfl⟩ := Option.map_eq_some_iff.mp e
    cases q
    obtain ⟨its, rv, ⟨o, ho, hc, m, hd⟩, _⟩ := I.tuple r1.t
    obtain ⟨as, z1, z2⟩ := toFs_readsQ I sm hs n ds ps vs its e1 r2 rv
    exact ⟨as, .tuple ho hc hd (by simpa using z1), z2⟩
  | n + 1, .ref i, p, v, u, e, r, q => by
    obtain ⟨a, rfl, r1⟩ := r
    cases q
    unfold toF at e
    split at e
    · rename_i b ds e0
      obtain ⟨ps, e1, rfl⟩ := Option.map_eq_some_iff.mp e
      obtain ⟨a', vs, ha, hq, r2⟩ := hs.list e0
      rw [r1] at ha
      cases ha
      obtain ⟨its, rv, pl, _⟩ := I.list hq
      have na := sm.ne I pl
      obtain ⟨o, m, ho, hc, _, hd⟩ := pl
      obtain ⟨as, z1, z2⟩ := toFs_readsQ I sm hs n ds ps vs its e1 r2 rv
      exact ⟨a :: as, .list ho hc hd (by simpa using z1), fun k => by
        rcases List.mem_cons.mp k with k | k
        · exact na k.symm
        · exact z2 k⟩
    · rename_i kvs e0
      obtain ⟨ps, e1, rfl⟩ := Option.map_eq_some_iff.mp e
      obtain ⟨ws, k1, k2, k3⟩ := hs.obj i _ a e0 r1
      obtain ⟨_, hS, vs, kv, o, es, ep, g1, g2, g3, _, g4, _⟩ := I.hok a _ k1
      obtain ⟨v1, v2⟩ := kv_vals kv
      have lp : (kvs.map fun x => keyP x.1).length = ps.length := by rw [toFs_len e1, List.length_map, List.length_map]
      have kk : (kvs.map fun x => keyP x.1) = vs.map fun x => keyP x.1 := by
        have := congrArg (List.map keyP) (k2.trans v2)
        rw [List.map_map, List.map_map] at this
        exact this
      obtain ⟨as, z1, z2⟩ := toFs_readsQ I sm hs n (kvs.map (·.2)) ps (ws.map (·.2)) (vs.map (·.2)) e1 k3 v1
      have na : a ≠ sysModules := by simpa using hS
      refine ⟨a :: [] ++ as, .dict (kvs := (kvs.map fun x => keyP x.1).zip ps) g1 g2.1 g3 ?_ ?_, ?_⟩
      · rw [zip_1 lp, kk]
        exact reads_keys g4
      · rw [zip_2 lp, pairs_val g4]
        exact z1
      · simp [Ne.symm na]
        exact z2
    · rename_i kvs e0
      obtain ⟨ks, e1, e2⟩ := Option.bind_eq_some_iff.mp e
      obtain ⟨ps, e3, rfl⟩ := Option.map_eq_some_iff.mp e2
      obtain ⟨ws, k1, k2, k3, k4, _⟩ := hs.obj i _ a e0 r1
      obtain ⟨⟨_, hS, xs, pr, o, es, ep, g1, g2, g3, g4, _⟩, _⟩ := (show ObjOk X.prog X.w H s.heap a (Gn.dnO a ws) from I.hok a _ k1)
      obtain ⟨v1, v2⟩ := pe_vals pr
      have lp : ks.length = ps.length := by rw [toFs_len e1, toFs_len e3, List.length_map, List.length_map]
      obtain ⟨as, y1, y2⟩ := toFs_readsQ I sm hs n (kvs.map (·.1)) ks _ _ e1 k3 v1
      obtain ⟨bs, z1, z2⟩ := toFs_readsQ I sm hs n (kvs.map (·.2)) ps _ _ e3 k4 v2
      have na : a ≠ sysModules := by simpa using hS
      refine ⟨a :: as ++ bs, .dict (kvs := ks.zip ps) g1 g2.1 g3 ?_ ?_, ?_⟩
      · rw [zip_1 lp, g4, List.map_map]
        exact y1
      · rw [zip_2 lp, g4, List.map_map]
        exact z1
      · simp [Ne.symm na]
        exact ⟨y2, z2⟩
    · cases e
theorem toFs_readsQ (I : Inv X pins σ H s) (sm : SysB X.base) (hs : SRep X.K tabs ι S H) : ∀ (n : Nat) (ds : List D) (ps : List PyData) (vs : List V) (us : List Value), toFs S n ds = some ps → RepL X.K ι H ds vs → Vals vs us → ∃ as, ReadsAll s.heap us ps as ∧ sysModules ∉ as
  | n, [], ps, vs, us, e, r, q => by
    have r : vs = [] := r
    subst r
    cases q
    have e2 : ps = [] := by cases n <;> (cases e; rfl)
    subst e2
    exact ⟨_, .nil, by simp⟩
  | 0, _ :: _, _, _, _, e, _, _ => by cases e
  | n + 1, d :: ds, ps, vs, us, e, r, q => by
    obtain ⟨v, rr, rfl, q1, q2⟩ := r
    unfold toFs at e
    split at e
    · rename_i p qs e1 e2
      cases e
      cases q with
      | cons w1 w2 =>
        obtain ⟨as, z1, z2⟩ := toF_readsQ I sm hs n d p v _ e1 q1 w1
        obtain ⟨bs, y1, y2⟩ := toFs_readsQ I sm hs n ds qs rr _ e2 q2 w2
        refine ⟨_, .cons z1 y1, ?_⟩
        rw [List.mem_append]
        rintro (c | c)
        · exact z2 c
        · exact y2 c
    · cases e
end
end
section
variable {X : Cx} {tabs : List Tb}
theorem crd_reprF (sm : SysB X.base) (hu : X.A.units + 64 < cLine) (hg : X.A.guards = some []) : CallR X (.builtin "repr") (rCl ⟨X.K, tabs⟩ reprF) := by
  rintro pins s σ H xs us Q I rx ⟨S, ι, ds, hs, r, hw⟩
  unfold reprF at hw
  split at hw
  · rename_i d
    obtain ⟨v, rfl, q⟩ := repl1 r
    obtain ⟨u, rfl, ru⟩ := vals1 rx
    split at hw
    · rename_i p ep
      split at hw
      · rename_i hf
        obtain ⟨f1, f3, f4⟩ := fit_partsQ hf
        obtain ⟨as, rd, ns⟩ := toF_readsQ I sm hs _ d p v u ep q ru
        have fin : ∀ (h' : Heap) (tk : Tok) (tk' : Nat), (∀ b o, s.heap.get? b = some o → h'.get? b = some o) → EP X pins σ Q (.str p.shown tk) { s with heap := h', toks := tk' } :=
          fun h' tk tk' hk => ⟨.str p.shown, H, I.kept hk, ⟨tk, rfl⟩, PV.now hw hs rfl⟩
        cases rd with
        | none =>
          have z : PyData.none.shown = ("None" : Str) := PyData.shown_none
          rw [z] at fin
          exact P.repr_of_none (fin s.heap _ _ fun _ _ e => e)
        | bool b =>
          have z := PyData.shown_bool b
          rw [z] at fin
          exact P.repr_of_bool (fin s.heap _ _ fun _ _ e => e)
        | int i t =>
          have z := PyData.shown_int i
          rw [z] at fin
          exact P.repr_of_int (by simpa [PyData.showable] using f1) (fin s.heap _ _ fun _ _ e => e)
        | str x t =>
          have z := PyData.shown_str x
          rw [z] at fin f3
          exact P.repr_of_str (fin s.heap _ _ fun _ _ e => e) f3
        | list h1 h2 h3 h4 => exact repr_of_reads' (.list h1 h2 h3 h4) f1 (fun _ => ns) hg (by omega) (fun _ _ e => e) fin f3
        | tuple h1 h2 h3 h4 => exact repr_of_reads' (.tuple h1 h2 h3 h4) f1 (fun _ => ns) hg (by omega) (fun _ _ e => e) fin f3
        | dict h1 h2 h3 h4 h5 => exact repr_of_reads' (.dict h1 h2 h3 h4 h5) f1 (fun _ => ns) hg (by omega) (fun _ _ e => e) fin f3
      · exact hw.elim
    · exact hw.elim
  · exact hw.elim
end
section
variable {X : Cx} {EX : EXT} {lv : Lv} {tabs : List Tb} {e : Expr} {es : List Expr} {ra : DenA} {p pos : Pos}
theorem xreprF {k : Nat} (sm : SysB X.base) (hr : RoomG k X.A) (hm : X.mg "repr" = none) (ha : PA X (e :: es) (semA ⟨X.K, tabs⟩ EX lv ra)) (hg : Gl X "repr" := by rfl) (he : starEach (e :: es) X.env = (false, eval e X.env) :: starEach es X.env := by rfl) (hpl : (backTo pos (starEach es X.env)).any (·.1) = false := by rfl) :
    PE X (.Call (.Name "repr" p) (e :: es) [] pos) (semE ⟨X.K, tabs⟩ EX lv (dCl reprF ra)) := pd_callB (crd_reprF sm hr.units hr.gd) hg hm bi_repr ha (by decide) (by decide) he hpl
end
end Dv

/-! ### dict(zip(a, b)), two lists -/
namespace Zd
open PySem PySem.Spec PyProof.Rows L2 PySem.W
section
variable {X : Cx} {pins : List (Addr × Obj)} {σ : L2.St}
/-- where the zip stands, fresh -/
structure ZNew (s : Shared) (h' : Heap) (a b z TI TO i1 i2 : Addr) (its its2 : Array Value) : Prop where
  D : ZipApart z TI TO i1 i2 a b
  hz : IsZip h' z TI TO .none
  hTI : IsPair h' TI (.ref i1) (.ref i2)
  hTO : IsPair h' TO .none .none
  g1 : h'.IsListIter i1 a 0
  g2 : h'.IsListIter i2 b 0
  l1 : h'.IsList a its
  l2 : h'.IsList b its2
  k : ∀ c o, s.heap.get? c = some o → h'.get? c = some o
  lo : ∀ c ∈ [z, TI, TO, i1, i2], s.heap.objs.size ≤ c ∧ c < h'.objs.size
end
end Zd
namespace Dv
open PySem PySem.Spec PyProof.Rows L2 Gr
section
variable {X : Cx} {tabs : List Tb} {EX : EXT} {lv : Lv} {ra : DenA} {e e2 : Expr} {p q pos zpos : Pos}
end
end Dv

/-! ### dict(zip(a, b)), a and b lists or tuples in any mix -/
namespace Zy
open PySem PySem.Spec PyProof.Rows L2
section
variable {P : Program} {u : World} {C : Around} {N : Value → Shared → Prop} {t : Shared} {q t1 t2 j1 j2 T : Addr} {g1 g2 : List Addr} {n1 n2 i : Nat} {R1 R2 : Nat → Value → Prop} {S1 S2 : Nat → Heap → Prop} {fl : Bool} {oT : Obj}
end
theorem Cont.at {k : Bool} {h h' : Heap} {a : Addr} {us : List Value} (c : Cont k h a us) (e : ∀ o, h.get? a = some o → h'.get? a = some o) : Cont k h' a us := by
  cases k with
  | true => exact Heap.IsList.at c e
  | false => exact Heap.IsTuple.at c e
theorem Cont.obj {k : Bool} {h : Heap} {a : Addr} {us : List Value} (c : Cont k h a us) : ∃ o, h.get? a = some o := by
  cases k with
  | true => obtain ⟨o, e, _⟩ := c; exact ⟨o, e⟩
  | false => obtain ⟨o, e, _⟩ := c; exact ⟨o, e⟩
/-- the zip's state: nothing given out yet, or a tuple is out -/
structure ZP (k1 k2 : Bool) (a b q t1 t2 j1 j2 d : Addr) (us ws : List Value) (i : Nat) (h : Heap) : Prop where
  ti : IsTupOf2 h t1 (.ref j1) (.ref j2)
  p1 : Aim k1 h j1 a i
  c1 : Cont k1 h a us
  p2 : Aim k2 h j2 b i
  c2 : Cont k2 h b ws
  zz : (IsZip h q t1 t2 .none ∧ ∃ x y, IsTupOf2 h t2 x y) ∨ ∃ T fl oT, IsZipHeld h q t1 t2 T fl ∧ h.get? T = some oT ∧ T ≠ q ∧ T ≠ j1 ∧ T ≠ j2 ∧ T ≠ d
end Zy

/-! ### dict(zip(a, b)), lists and tuples in any mix -/
namespace Zd
open PySem PySem.Spec PyProof.Rows L2 PySem.W
section
variable {X : Cx} {pins : List (Addr × Obj)} {σ : L2.St}
end
end Zd
namespace Dv
open PySem PySem.Spec PyProof.Rows L2 Gr
section
variable {X : Cx} {tabs : List Tb} {EX : EXT} {lv : Lv} {ra : DenA} {e e2 : Expr} {p q pos zpos : Pos}
end
end Dv

/-! own classes: instances made, methods called, where nothing is being shown -/
namespace Gr
open PySem PySem.Spec PyProof.Rows L2
section
variable {X : Cx} {CX : CXT} {k : Nat} {f C : Addr} {fd : FuncData} {ps : List Str} {sp : Sp} {E : L2.St → XK} {x m : Str} {p pos apos : Pos} {e o : Expr} {es : List Expr} {ta : TE} {t : TA}
end
end Gr

/-! ### own classes: fields, instances, methods -/
namespace Dv
open PySem PySem.Spec PyProof.Rows L2 Gr
/-- an own class, its fields, its methods (each with the number of its def) -/
structure CK (K : PySem.W.Frag) (mg : Str → Option Value) (fs : List FnE) (c : Str) (at_ : List Str) (ms : List (Str × Nat)) : Prop where
  ex : ∃ C : Addr, mg c = some (.ref C) ∧ PySem.W.nsIn K mainGlobals c = some (some (.ref C)) ∧ Gn.ClsD K C ∧ PySem.W.makesIn K C = true ∧ PySem.W.keepIn K (.ref C) = true ∧ (∀ (j : Nat) (f : Str), at_[j]? = some f → NoAttr K C f) ∧
    ∀ (j : Nat) (m : Str × Nat), ms[j]? = some m → ∃ e : FnE, fs[m.2]? = some e ∧ Meth K C m.1 e.f ∧ Binds K e.fd e.ps []
section
variable {X : Cx} {EX : EXT} {lv : Lv} {tabs : List Tb} {CX : CXT} {cl : Option (Nat → Value)} {fs : List FnE} {k n : Nat} {c x : Str} {at_ : List Str} {ms : List (Str × Nat)} {p pos pos' apos : Pos} {a o e value : Expr} {es : List Expr} {da dv : Den} {ra : DenA} {e0 : FnE}
/-- own defs that stand in the top, ahead of the methods -/
structure FnsN (K : PySem.W.Frag) (mg : Str → Option Value) (N : Nat) (fs : List FnE) : Prop where
  all : ∀ (i : Nat) (e : FnE), i < N → fs[i]? = some e → mg e.x = some (.ref e.f) ∧ PySem.W.keepIn K (.ref e.f) = true ∧ Binds K e.fd e.ps []
end
end Dv

/-! ### {k: v}, with a tuple for its one key -/
namespace Gk
open PySem PySem.Spec PyProof.Rows L2
def tOne (K : PySem.W.Frag) (tk tv : TE) : TE := fun σ H Q => ∀ p, H p = none → tk σ (upd H p (dtO p [])) fun x H1 => tv σ H1 fun y H2 =>
  H2 p = some (dtO p []) ∧ ∃ b ks vs, x = .ref b ∧ SqT K H2 b vs ∧ KVs ks vs ∧ Q (.ref p) (upd H2 p (dtO p [(ks, b, y)]))
theorem pe_one {X : Cx} {pos : Pos} {k v : Expr} {tk tv : TE} (hu : X.A.units < cLine) (hk : PE X k tk) (hv : PE X v tv) : PE X (.Dict [some k] [v] pos) (tOne X.K tk tv) := by
  refine ⟨fun pins s σ H Q I q => ?_⟩
  have hn := I.hok.fresh (Nat.le_refl s.heap.objs.size)
  have I1 := I.laid (a := s.heap.objs.size) (o := dtO s.heap.objs.size []) (h' := s.heap.push { cls := .type "dict", data := .dict #[] }) (t' := s.toks) (fun _ _ q => Heap.get?_push_of_some _ q) (Nat.le_refl _) (dt_obj (dt_new I))
  rw [arm_eval_Dict, zip_pairTrees [some k] [v] X.env pos rfl rfl, dictDisplay_pairs (pairTrees [some k] [v] X.env pos) (by simp [pairTrees]) (by simp [pairTrees])]
  refine wpAny_bind (wpAny_standAt (wpAny_bind (wpAny_subDictH (knd := tK X.prog X.w) (Q := fun d s' => wpAny (model X.prog X.w) X.A (pure (Value.ref d)) _ X.xe s') hu (by simp [pairTrees]) ?_)))
  refine pairTrees_cons_walk (thn (hk.run pins _ σ _ _ I1 (q _ hn)) fun u s1 ⟨x, H1, J1, rx, q1⟩ => thn (hv.run pins s1 σ H1 _ J1 q1) fun w2 s2 ⟨y, H2, I2, ry, e, b, ks, vs, ex, hb, kb, q2⟩ => pairTrees_nil_walk ?_)
  subst ex
  cases (show u = Value.ref b from rx)
  obtain ⟨_, yy, xs, r, d⟩ := dt_at I2 e (fun z hz => nomatch hz)
  cases r
  refine ⟨[(ks, b, w2)], ⟨rfl, rfl, key_at I2 hb kb, True.intro⟩, d, fun h' tk d' same => wpAny_pure ⟨.ref s.heap.objs.size, _, ?_, rfl, q2⟩⟩
  obtain ⟨o, es, ep, e1, c1, c2, c3, c4, c5⟩ := d'
  have t : TD s.heap.objs.size [(ks, b, y)] h' := ⟨by rw [sizeLine_eq, List.length_singleton]; decide, yy, _, .cons ⟨rfl, rfl, ry⟩ .nil, o, es, ep, e1, c1, c2, c3, c5⟩
  exact I2.write (x := s.heap.objs.size) (e := s.heap.objs.size) (by rw [e]; exact True.intro) (.inl rfl) (fun c q hc e => (same.2 c hc).trans e) ⟨o, e1⟩ (dt_obj t)
section
variable {X : Cx}
end
end Gk

namespace Dv
open PySem PySem.Spec PyProof.Rows L2 Gr
/-! ### {k: v}, k a tuple -/
def dDt1 (dk dv : Den) : Den := fun lv ρ S => (dk lv ρ (S ++ [.dt []])).bind fun x S1 => (dv lv ρ S1).bind fun y S2 => match tksD x, S2[S.length]? with
  | some ks, some (.dt []) => .ok (.ref S.length) (S2.set S.length (.dt [(ks, y)]))
  | _, _ => .no
section
variable {X : Cx} {EX : EXT} {lv : Lv} {tabs : List Tb} {pos : Pos} {k v : Expr} {dk dv : Den}
end
/-! ### k in d, d keyed by tuples -/
section
variable {X : Cx} {tabs : List Tb}
end
section
variable {S : Sto} {lv : Lv} {ρ : Env} {dk dv : Den}
@[simp] theorem ev_dt1 : dDt1 dk dv lv ρ S = (dk lv ρ (S ++ [.dt []])).bind fun x S1 => (dv lv ρ S1).bind fun y S2 => match tksD x, S2[S.length]? with
  | some ks, some (.dt []) => .ok (.ref S.length) (S2.set S.length (.dt [(ks, y)]))
  | _, _ => .no := id rfl
end
end Dv

/-! ### {k: v}, its one key a tuple of any depth -/
namespace Gn
open PySem PySem.Spec PyProof.Rows L2
def tOneN (K : PySem.W.Frag) (tk tv : TE) : TE := fun σ H Q => ∀ p, H p = none → tk σ (upd H p (dnO p [])) fun x H1 => tv σ H1 fun y H2 =>
  H2 p = some (dnO p []) ∧ ∃ b k, x = .ref b ∧ NV K H2 k (.ref b) ∧ Good k ∧ Q (.ref p) (upd H2 p (dnO p [(k, b, y)]))
theorem pe_oneN {X : Cx} {pos : Pos} {k v : Expr} {tk tv : TE} (hu : X.A.units + 9 < cLine) (hk : PE X k tk) (hv : PE X v tv) : PE X (.Dict [some k] [v] pos) (tOneN X.K tk tv) := by
  refine ⟨fun pins s σ H Q I q => ?_⟩
  have hn := I.hok.fresh (Nat.le_refl s.heap.objs.size)
  have I1 := I.laid (a := s.heap.objs.size) (o := dnO s.heap.objs.size []) (h' := s.heap.push { cls := .type "dict", data := .dict #[] }) (t' := s.toks) (fun _ _ q => Heap.get?_push_of_some _ q) (Nat.le_refl _) (dn_obj (dn_new I))
  rw [arm_eval_Dict, zip_pairTrees [some k] [v] X.env pos rfl rfl, dictDisplay_pairs (pairTrees [some k] [v] X.env pos) (by simp [pairTrees]) (by simp [pairTrees])]
  have rm : (nK X.prog X.w).room X.A := by show X.A.units + 8 < cLine; omega
  refine wpAny_bind (wpAny_standAt (wpAny_bind (wpAny_subDictH (knd := nK X.prog X.w) (Q := fun d s' => wpAny (model X.prog X.w) X.A (pure (Value.ref d)) _ X.xe s') rm (by simp [pairTrees]) ?_)))
  refine pairTrees_cons_walk (thn (hk.run pins _ σ _ _ I1 (q _ hn)) fun u s1 ⟨x, H1, J1, rx, q1⟩ => thn (hv.run pins s1 σ H1 _ J1 q1) fun w2 s2 ⟨y, H2, I2, ry, e, b, k, ex, hb, kb, q2⟩ => pairTrees_nil_walk ?_)
  subst ex
  cases (show u = Value.ref b from rx)
  obtain ⟨_, yy, xs, r, d, _⟩ := dn_at I2 e (fun z hz => nomatch hz)
  cases r
  refine ⟨[(k, b, w2)], ⟨rfl, rfl, key_at I2 hb kb, True.intro⟩, d, fun h' tk d' same => wpAny_pure ⟨.ref s.heap.objs.size, _, ?_, rfl, q2⟩⟩
  have t : TD s.heap.objs.size [(k, b, y)] h' := td_of (by rw [sizeLine_eq, List.length_singleton]; decide) yy (.cons ⟨rfl, rfl, ry⟩ .nil) d' (fun x hx => by
    rw [List.mem_singleton.mp hx]; exact kb.1)
  obtain ⟨o, es, ep, e1, _⟩ := id d'
  exact I2.write (x := s.heap.objs.size) (e := s.heap.objs.size) (by rw [e]; exact True.intro) (.inl rfl) (fun c q hc e => (same.2 c hc).trans e) ⟨o, e1⟩ (dn_obj t)
end Gn

namespace Dv
open PySem PySem.Spec PyProof.Rows L2 Gr
/-! ### {k: v}, k a tuple, kept as it is -/
def dDn1 (dk dv : Den) : Den := fun lv ρ S => (dk lv ρ (S ++ [.dn []])).bind fun x S1 => (dv lv ρ S1).bind fun y S2 => match tkD x, S2[S.length]? with
  | some _, some (.dn []) => .ok (.ref S.length) (S2.set S.length (.dn [(x, y)]))
  | _, _ => .no
section
variable {X : Cx} {EX : EXT} {lv : Lv} {tabs : List Tb} {pos : Pos} {k v : Expr} {dk dv : Den}
theorem xdn1 (hu : X.A.units + 64 < cLine) (hk : PE X k (semE ⟨X.K, tabs⟩ EX lv dk)) (hv : PE X v (semE ⟨X.K, tabs⟩ EX lv dv)) : PE X (.Dict [some k] [v] pos) (semE ⟨X.K, tabs⟩ EX lv (dDn1 dk dv)) := by
  refine PE.imp (Gn.pe_oneN (by omega) hk hv) fun σ H Q h => ?_
  obtain ⟨ρ, S, ι, he, hs, hw⟩ := h
  intro p hp
  obtain ⟨s2, l2⟩ := hs.new (u := Gn.dnO p []) (o := .dn []) hp rfl ⟨[], upd_same, rfl, rfl, rfl, fun x hx => nomatch hx⟩
  have r2 : Rep X.K (ι ++ [p]) (upd H p (Gn.dnO p [])) (.ref S.length) (.ref p) := ⟨p, rfl, by rw [hs.len]; simp⟩
  have hw2 := R.wp_mono hw (fun _ _ q => PV.mono l2 q) fun _ _ q => PX.mono l2 q
  refine stepE (Po := fun ι H => PV ⟨X.K, tabs⟩ ι H Q) (he.mono l2) s2 (fun l q => q.mono l) hw2 fun x S1 v H1 ι1 l1 s1 r1 e1 h1 => ?_
  refine stepE (Po := fun ι H => PV ⟨X.K, tabs⟩ ι H Q) e1 s1 (fun l q => q.mono l) h1 fun y S2 u H2 ι2 l3 s3 r3 e3 h3 => ?_
  split at h3
  · rename_i nk e4 e5
    have hA : ι2[S.length]? = some p := by
      obtain ⟨a, ea, q⟩ := Rep.mono (l1.trans l3) _ _ r2
      cases ea
      exact q
    obtain ⟨us, k1, k2, k3, k4, k5⟩ := s3.obj _ _ p e5 hA
    have ews : us = [] := by
      cases us with
      | nil => rfl
      | cons _ _ => simp at k2
    subst ews
    have rx := Rep.mono l3 x v r1
    obtain ⟨n1, b, rfl, g1, g2⟩ := tk_rep e4 rx
    refine ⟨k1, b, nk, rfl, g1, g2, ?_⟩
    have l4 : Le ι2 H2 ι2 (upd H2 p (Gn.dnO p [(nk, b, u)])) := ⟨fun _ _ z => z, fun c vs z => by
      rw [upd_ne (fun q => by rw [q, k1] at z; cases z)]; exact z, fun c o u z => by
      rw [upd_ne (fun q => by rw [q, k1] at z; cases z)]; exact z⟩
    obtain ⟨s4, l5⟩ := s3.put (u := Gn.dnO p [(nk, b, u)]) (o' := .dn [(x, y)]) e5 hA rfl rfl ⟨_, upd_same, by rw [List.map_cons, List.map_cons, n1]; rfl, ⟨_, [], rfl, Rep.mono l4 x _ rx, rfl⟩, ⟨u, [], rfl, Rep.mono l4 y u r3, rfl⟩, fun z hz => by
      rw [List.mem_singleton.mp hz]; exact g2⟩
    exact h3 _ _ ι2 l5 s4 ⟨p, rfl, hA⟩
  · exact h3.elim
end
theorem ev_dn1 {a b : Den} {lv : Lv} {ρ : Dv.Env} {S : Sto} : dDn1 a b lv ρ S = (a lv ρ (S ++ [.dn []])).bind fun x S1 => (b lv ρ S1).bind fun y S2 => match tkD x, S2[S.length]? with
  | some _, some (.dn []) => .ok (.ref S.length) (S2.set S.length (.dn [(x, y)]))
  | _, _ => .no := rfl
end Dv

/-! for x in a text -/
namespace Dv
open PySem PySem.Spec PyProof.Rows L2
end Dv

namespace Dv
open PySem PySem.Spec PyProof.Rows L2
/-! ### a target with a tuple in it: i, (j, ..) -/
section
variable {X : Cx} {e : Expr} {pos p2 : Pos}
@[simp] theorem tg_tn3 {i a b c : Nat} {x y z w : D} {ρ : Env} : tgD (.tn i [a, b, c]) (.tup [x, .tup [y, z, w]]) ρ = some ((((ρ.set i (some x)).set a (some y)).set b (some z)).set c (some w)) := id rfl
end
end Dv

/-! ### tuples and dicts of the module -/
namespace Dv
open PySem PySem.Spec PyProof.Rows L2 Gr
def ginD (ks : List (Str × Int)) : Op1
  | .str z, S => .ok (.bl (ks.lookup z).isSome) S
  | _, _ => .no
def gixD (ks : List (Str × Int)) : Op1
  | .str z, S => match ks.lookup z with
    | some i => .ok (.int i) S
    | none => .no
  | _, _ => .no
section
variable {X : Cx} {tabs : List Tb} {EX : EXT} {lv : Lv} {a b : Expr} {da : Den} {x : Str} {p pos : Pos} {ks : List (Str × Int)}
end
/-! meanings -/
section
variable {S : Sto} {ks : List (Str × Int)} {z : Str}
@[simp] theorem gin_s : ginD ks (.str z) S = .ok (.bl (ks.lookup z).isSome) S := id rfl
theorem gix_s {i : Int} (h : ks.lookup z = some i) : gixD ks (.str z) S = .ok (.int i) S := by
  unfold gixD
  simp only [h]
end
/-! they stand in the written part -/
inductive Ents : List (Str × Int) → List DictEntry → Prop where
  | nil : Ents [] []
  | cons {k : Str} {i h : Int} {t u : Tok} {ks : List (Str × Int)} {es : List DictEntry} (r : Ents ks es) : Ents ((k, i) :: ks) (⟨h, .str k t, .int i u⟩ :: es)
end Dv

namespace Dv
open PySem PySem.Spec PyProof.Rows L2 Gr PySem.MeetsSeq PySem.AutoSeq1
/-! ### xs.extend(t), t a tuple -/
def extTD : OpM
  | .ref i, [.tup ys], S => match S[i]? with
    | some (.lst true xs) => if xs.length + ys.length ≤ mx then .ok .non (S.set i (.lst true (xs ++ ys))) else .no
    | _ => .no
  | _, _, _ => .no
section
variable {X : Cx}
@[simp] theorem extT_r {S : Sto} {i : Nat} {xs ys : List D} (h : S[i]? = some (.lst true xs)) : extTD (.ref i) [.tup ys] S = if xs.length + ys.length ≤ mx then .ok .non (S.set i (.lst true (xs ++ ys))) else .no := by
  unfold extTD
  simp only [h]
end
end Dv

namespace Dv
open PySem PySem.Spec PyProof.Rows L2 Gr
/-! ### any(l), all(l) of a list of truths -/
def blsD : List D → Option (List Bool)
  | [] => some []
  | .bl b :: r => (blsD r).map (b :: ·)
  | _ => none
theorem blsD_of : ∀ bs : List Bool, blsD (bs.map D.bl) = some bs
  | [] => rfl
  | b :: bs => by rw [List.map_cons, blsD, blsD_of bs]; rfl
def tsO (f : List Bool → Bool) : Option O → Sto → R D
  | some (.lst _ xs), S => match blsD xs with
    | some bs => .ok (.bl (f bs)) S
    | none => .no
  | _, _ => .no
def tsD (f : List Bool → Bool) : OpN
  | [.ref i], S => tsO f S[i]? S
  | _, _ => .no
section
variable {X : Cx} {tabs : List Tb}
end
section
variable {X : Cx} {tabs : List Tb} {EX : EXT} {lv : Lv} {ra : DenA} {e : Expr} {es : List Expr} {p pos : Pos}
end
@[simp] theorem ts_r {f : List Bool → Bool} {i : Nat} {S : Sto} : tsD f [.ref i] S = tsO f S[i]? S := id rfl
@[simp] theorem tsO_l {f : List Bool → Bool} {w : Bool} {bs : List Bool} {S : Sto} : tsO f (some (.lst w (bs.map D.bl))) S = .ok (.bl (f bs)) S := by
  unfold tsO
  simp only [blsD_of]
/-! ### l.index(x), l.count(x), l.clear() -/
def clearD : OpM
  | .ref i, [], S => match S[i]? with
    | some (.lst true _) => .ok .non (S.set i (.lst true []))
    | _ => .no
  | _, _, _ => .no
section
variable {X : Cx} {tabs : List Tb}
end
/-! ### these at data -/
def clrO (i : Nat) : Option O → Sto → R D
  | some (.lst true _), S => .ok .non (S.set i (.lst true []))
  | _, _ => .no
@[simp] theorem clrO_l {i : Nat} {xs : List D} {S : Sto} : clrO i (some (.lst true xs)) S = .ok .non (S.set i (.lst true [])) := id rfl
@[simp] theorem clr_ref {i : Nat} {S : Sto} : clearD (.ref i) [] S = clrO i S[i]? S := by
  unfold clearD clrO
  dsimp only
  split <;> first | rfl | (rename_i h1; split <;> first | rfl | (rename_i h2; exact absurd h2 (by simp_all)))
end Dv

namespace Dv
open PySem PySem.Spec PyProof.Rows L2 Gr
/-! ### max(l), min(l) of a list of ints -/
def pkI (f : Int → Int → Int) : List Int → Option Int
  | [] => none
  | n :: ns => some (ns.foldl f n)
def mxO (f : Int → Int → Int) : Option O → Sto → R D
  | some (.lst _ xs), S => match (intsD xs).bind (pkI f) with
    | some j => .ok (.int j) S
    | none => .no
  | _, _ => .no
def mxLD (f : Int → Int → Int) : OpN
  | [.ref i], S => mxO f S[i]? S
  | _, _ => .no
section
variable {X : Cx} {tabs : List Tb}
variable {EX : EXT} {lv : Lv} {ra : DenA} {e : Expr} {es : List Expr} {p pos : Pos}
end
@[simp] theorem mx_r {f : Int → Int → Int} {i : Nat} {S : Sto} : mxLD f [.ref i] S = mxO f S[i]? S := id rfl
theorem mxO_l {f : Int → Int → Int} {w : Bool} {n : Int} {ns : List Int} {S : Sto} : mxO f (some (.lst w ((n :: ns).map D.int))) S = .ok (.int (ns.foldl f n)) S := by
  unfold mxO
  simp only [intsD_of, Option.bind_some, pkI]
end Dv

namespace Dv
open PySem PySem.Spec PyProof.Rows L2 Gr
/-! ### l[i] op= e, of a list -/
def ixL : Op2 := fun x y S => match x with
  | .ref i => ixD (.ref i) y S
  | _ => .no
@[simp] theorem ixL_r {i : Nat} {y : D} {S : Sto} : ixL (.ref i) y S = ixD (.ref i) y S := id rfl
def sAugI (o i : Den) (op : Op2) (e : Den) : DenS := fun lv ρ S => (o lv ρ S).bindS ρ fun x S1 => (i lv ρ S1).bindS ρ fun y S2 => (quiet (ixL x y S2)).bindS ρ fun z S3 => (e lv ρ S3).bindS ρ fun v S4 => (quiet (op z v S4)).bindS ρ fun u S5 => (setD x y u S5).bindS ρ fun _ S6 => .ok (.nx ρ) S6
section
variable {X : Cx} {EX : EXT} {lv : Lv} {tabs : List Tb} {o i e : Expr} {dox di de : Den} {op : Operator} {oo : Op2} {tpos pos : Pos}
end
end Dv

namespace Dv
open PySem PySem.Spec PyProof.Rows L2 Gr
/-! ### l[a::s], of a list -/
section
variable {K : PySem.W.Frag} {ι : List Addr} {H : Hp}
end
section
variable {X : Cx} {e : Expr} {te : TE} {k : Nat} {p1 p3 pos : Pos} {loE : Option Expr} {lo : Option Int} {st : Int}
variable {EX : EXT} {lv : Lv} {tabs : List Tb} {de : Den}
end
end Dv

namespace Dv
open PySem PySem.Spec PyProof.Rows L2 Gr
/-! ### max(l, default=c) of a list of ints -/
def mdI (c : Int) : List Int → Int
  | [] => c
  | n :: ns => ns.foldl max n
def mdO (c : Int) : Option O → Sto → R D
  | some (.lst _ xs), S => match intsD xs with
    | some ns => .ok (.int (mdI c ns)) S
    | none => .no
  | _, _ => .no
def mdD (c : Int) : OpN
  | [.ref i], S => mdO c S[i]? S
  | _, _ => .no
section
variable {X : Cx} {tabs : List Tb} {c : Int}
variable {EX : EXT} {lv : Lv} {ra : DenA} {e : Expr} {p p1 p2 pos : Pos} {k : Nat}
end
@[simp] theorem md_r {c : Int} {i : Nat} {S : Sto} : mdD c [.ref i] S = mdO c S[i]? S := id rfl
theorem mdO_l {c : Int} {w : Bool} {ns : List Int} {S : Sto} : mdO c (some (.lst w (ns.map D.int))) S = .ok (.int (mdI c ns)) S := by
  unfold mdO
  simp only [intsD_of]
end Dv

namespace Dv
open PySem PySem.Spec PyProof.Rows L2 Gr
/-! ### a | b of ints -/
def orD : Op2
  | .int i, .int j, S => .ok (.int (Builtin.bitOr i j)) S
  | _, _, _ => .no
@[simp] theorem or_ii {i j : Int} {S : Sto} : orD (.int i) (.int j) S = .ok (.int (Builtin.bitOr i j)) S := id rfl
/-- of two numbers that are not negative -/
theorem or_nat {i j : Nat} : Builtin.bitOr (i : Int) (j : Int) = ((i ||| j : Nat) : Int) := by
  have h := nat_or_add_and i j
  rw [bitOr_and, bitAnd_pp (Int.natCast_nonneg i) (Int.natCast_nonneg j)]
  simp only [Int.toNat_natCast]
  omega
end Dv

namespace Dv
open PySem PySem.Spec PyProof.Rows L2 Gr
/-! ### len(set(l)) of a list of ints, some of them alike -/
/-- how many ints there are that differ -/
def dcnt (ns : List Int) : Nat := (firstMet (fun i => ns.getD i 0) ns.length).length
def lgN : Option (List Int) → Sto → R D
  | some ns, S => if ns.length ≤ 4000 then .ok (.int (dcnt ns : Nat)) S else .no
  | none, _ => .no
def lgO : Option O → Sto → R D
  | some (.lst _ xs), S => lgN (intsD xs) S
  | _, _ => .no
def lgK : D → Sto → R D
  | .ref i, S => lgO S[i]? S
  | _, _ => .no
def dLSg (a : Den) : Den := fun lv ρ S => (a lv ρ S).bind lgK
section
variable {X : Cx} {EX : EXT} {lv : Lv} {tabs : List Tb} {a : Expr} {da : Den} {p p2 q pos : Pos}
end
@[simp] theorem ev_lsg {a : Den} {lv : Lv} {ρ : Dv.Env} {S : Sto} : dLSg a lv ρ S = (a lv ρ S).bind lgK := id rfl
@[simp] theorem lgK_r {i : Nat} {S : Sto} : lgK (.ref i) S = lgO S[i]? S := id rfl
theorem lgO_l {w : Bool} {ns : List Int} {S : Sto} (h : ns.length ≤ 4000) : lgO (some (.lst w (ns.map D.int))) S = .ok (.int (dcnt ns : Nat)) S := by
  unfold lgO
  simp only [intsD_of, lgN, if_pos h]
end Dv

namespace Dv
open PySem PySem.Spec PyProof.Rows L2 Gr
/-! ### x.index(y), x a list or a tuple -/
/-- the place of an equal one -/
def ixPl (d : PyData) (ds : List PyData) : Option Nat := if SeqAt.shaped d = true ∧ SeqAt.shaped (.list ds) = true ∧ SeqAt.shaped (.tuple ds) = true then ds.findIdx? (fun z => PyData.eqv z d) else none
def ixA2 (x y : D) (S : Sto) : Option Nat := match toP S 1000 y, toP S 1000 x with
  | some d, some (.list ds) => ixPl d ds
  | some d, some (.tuple ds) => ixPl d ds
  | _, _ => none
def ixAD : OpM := fun x xs S => match xs with
  | [y] => match ixA2 x y S with
    | some j => .ok (.int (j : Int)) S
    | none => .no
  | _ => .no
section
variable {X : Cx} {tabs : List Tb}
end
/-- of its kind -/
def isLT (d : D) (S : Sto) : Bool := match d with
  | .tup _ => true
  | .ref i => match S[i]? with
    | some (.lst _ _) => true
    | _ => false
  | _ => false
def ixK2 (x : D) : List D → Sto → R D := fun xs S => quiet (ixAD x xs S)
def ixK1 (ra : DenA) (lv : Lv) (ρ : Env) : D → Sto → R D := fun x S => if isLT x S = true then (ra lv ρ S).bind (ixK2 x) else .no
def dIdx (o : Den) (a : DenA) : Den := fun lv ρ S => (o lv ρ S).bind (ixK1 a lv ρ)
@[simp] theorem ixK2_ap {x : D} {xs : List D} {S : Sto} : ixK2 x xs S = quiet (ixAD x xs S) := id rfl
@[simp] theorem ixK1_ap {ra : DenA} {lv : Lv} {ρ : Env} {x : D} {S : Sto} : ixK1 ra lv ρ x S = if isLT x S = true then (ra lv ρ S).bind (ixK2 x) else .no := id rfl
@[simp] theorem ev_idx {o : Den} {a : DenA} {lv : Lv} {ρ : Env} {S : Sto} : dIdx o a lv ρ S = (o lv ρ S).bind (ixK1 a lv ρ) := id rfl
@[simp] theorem isLT_t {xs : List D} {S : Sto} : isLT (.tup xs) S = true := id rfl
theorem isLT_r {i : Nat} {S : Sto} {w : Bool} {xs : List D} (h : S[i]? = some (.lst w xs)) : isLT (.ref i) S = true := by
  unfold isLT
  simp only [h]
section
variable {X : Cx} {tabs : List Tb} {EX : EXT} {lv : Lv} {da : Den} {ra : DenA} {o e : Expr} {es : List Expr} {apos cpos : Pos}
end
end Dv

namespace Dv
open PySem PySem.Spec PyProof.Rows L2 Gr
/-! ### a, b = x, y -/
def sPar (i j : Nat) (ra : DenA) : DenS := fun lv ρ S => (ra lv ρ S).bindS ρ fun xs S1 => match xs with
  | [v, w] => .ok (.nx ((ρ.set i (some v)).set j (some w))) S1
  | _ => .no
def paK (i j : Nat) (ρ : Env) : List D → Sto → R Fl := fun xs S => match xs with
  | [v, w] => .ok (.nx ((ρ.set i (some v)).set j (some w))) S
  | _ => .no
@[simp] theorem paK_2 {i j : Nat} {ρ : Env} {v w : D} {S : Sto} : paK i j ρ [v, w] S = .ok (.nx ((ρ.set i (some v)).set j (some w))) S := id rfl
@[simp] theorem ev_par {i j : Nat} {ra : DenA} {lv : Lv} {ρ : Env} {S : Sto} : sPar i j ra lv ρ S = (ra lv ρ S).bindS ρ (paK i j ρ) := id rfl
theorem stepAS' {w : Wn} {EX : EXT} {lv : Lv} {σ : L2.St} {H : Hp} {ρ : Env} {S : Sto} {ι : List Addr} {Dn : Ends} {d : DenA} {k : List D → Sto → R Fl} {T : List V → Hp → Prop} (he : ERep w.K ι H ρ σ) (hs : SRep w.K w.tabs ι S H)
    (hw : ((d lv ρ S).bindS ρ k).wp (PF w EX ι H Dn) noX) (cont : ∀ x S1 v H1 ι1, Le ι H ι1 H1 → SRep w.K w.tabs ι1 S1 H1 → RepL w.K ι1 H1 x v → ERep w.K ι1 H1 ρ σ → (k x S1).wp (PF w EX ι1 H1 Dn) noX → T v H1) : semA w EX lv d σ H T := by
  refine ⟨ρ, S, ι, he, hs, ?_⟩
  cases e : d lv ρ S with
  | no => rw [e] at hw; exact hw.elim
  | ex c S1 => rw [e] at hw; exact fun H1 ι1 l s1 => hw σ H1 ι1 l s1 (he.mono l)
  | ok xs S1 =>
    rw [e] at hw
    exact fun v H1 ι1 l s1 r => cont xs S1 v H1 ι1 l s1 r (he.mono l) (R.wp_mono hw (fun f S2 q => q.mono l) fun _ _ q => q)
section
variable {X : Cx} {w : Wn} {EX : EXT} {lv : Lv} {a b : Expr} {ra : DenA} {pos px py pt : Pos} {x y : Str}
end
end Dv

namespace Dv
open PySem PySem.Spec PyProof.Rows L2 Gr
/-! ### len(set(t)) of a tuple of ints -/
def lgT : D → Sto → R D
  | .tup xs, S => lgN (intsD xs) S
  | _, _ => .no
def dLSt (a : Den) : Den := fun lv ρ S => (a lv ρ S).bind lgT
section
variable {X : Cx} {EX : EXT} {lv : Lv} {tabs : List Tb} {a : Expr} {da : Den} {p p2 q pos : Pos}
end
@[simp] theorem ev_lgst {a : Den} {lv : Lv} {ρ : Dv.Env} {S : Sto} : dLSt a lv ρ S = (a lv ρ S).bind lgT := id rfl
theorem lgT_t {ns : List Int} {S : Sto} (h : ns.length ≤ 4000) : lgT (.tup (ns.map D.int)) S = .ok (.int (dcnt ns : Nat)) S := by
  show lgN (intsD (ns.map D.int)) S = _
  rw [intsD_of]
  unfold lgN
  dsimp only
  rw [if_pos h]
end Dv

/-! ### set(l) of a list of ints, and its members in order -/
namespace Gs
open PySem PySem.Spec PyProof.Rows L2
section
variable {s : Shared} {P : Program} {w : World} {A : Around} {E : Value → Shared → Prop}
set_option maxHeartbeats 6400000 in
end
end Gs

namespace Gs
open PySem PySem.Spec PyProof.Rows L2
section
variable {s : Shared} {P : Program} {w : World} {A : Around} {E : Value → Shared → Prop}
/-- sorted(a set of ints), of any size -/
theorem members {a : Addr} {S : Int → Bool} {n : Nat} {Q : Value → Shared → Prop} (R : SetR w s.heap a S n) (calm : A.handled = none) (few : n ≤ 5000)
    (fin : ∀ t p (out : Array Value) (c : Nat) (zs : List Int), (∀ b o, s.heap.get? b = some o → t.heap.get? b = some o) → t.gens = s.gens → t.os = s.os → s.heap.objs.size ≤ p → t.heap.get? p = some (seqObj "list" out c) → IntsAre out.toList zs → zs.Pairwise (· < ·) → (∀ k, k ∈ zs ↔ S k = true) → zs.length = n → Q (.ref p) t) : wpAny (model P w) A (call (.builtin "sorted") [.ref a]) Q E s := by
  obtain ⟨o, es, ep, t, at_a, ex, dat, good, nd, mem, small, fits, len, ris, led⟩ := R
  refine Calls.call_function_entry kind_sorted plain_sorted entry_sorted (args_sorted1 (.ref a)) ?_
  unfold Builtin.«sorted»
  refine wpAny_bind (m := (checkCount "sorted" 1 1 _)) (wpAny_pure (?_))
  refine wpAny_bind (collect_set calm (A := A.in1) ⟨o, at_a, ex.1, dat⟩ fits small ris led fun s1 us keep grow sg so perm => ?_)
  have lu : us.length = n := by simpa [len] using perm.length_eq
  have ii : IntsAre us (us.map Builtin.Re.reRawOf) := ints_of us fun v m => by
    obtain ⟨e, me, rfl⟩ := List.mem_map.mp (perm.mem_iff.mp m)
    obtain ⟨k, tk, q, _⟩ := good e me
    exact ⟨k, tk, q⟩
  have keys : (us.map Builtin.Re.reRawOf).Perm (es.toList.map keyOf) := by
    have := perm.map Builtin.Re.reRawOf
    rwa [List.map_map] at this
  have fz : us.length ≤ sizeLine := by rw [lu, sizeLine_eq]; omega
  refine wpAny_bind (wpAny_newList ?_ fz)
  have at_p : (s1.heap.push (seqObj "list" us.toArray 0)).get? s1.heap.objs.size = some (seqObj "list" us.toArray 0) := Heap.get?_push_size _ rfl
  refine wpAny_bind (wpAny_holding (wpAny_call_entry slot_list_sort ⟨_, at_p, rfl⟩ entry_list_sort (SrtO.list_sort_ord SrtO.swo_int at_p fz (fun two => SrtO.ints_sortable ii two) fun out so1 so2 => ⟨_, rfl, ?_⟩) (args_list_sort _)))
  obtain ⟨r1, r2, r3⟩ := SrtO.ints_out ii so1 so2
  obtain ⟨c, hc⟩ := sortedHeap_at (vs := us) (out := out.toArray) at_p
  have all := r2.trans keys
  refine wpAny_pure ⟨_, rfl, fin _ s1.heap.objs.size out.toArray c (out.map SrtO.iv) (fun b u e => ?_) sg so grow hc (by simpa using r1) (lt_of_le_nodup _ r3 (all.nodup_iff.mpr nd)) (fun k => by rw [all.mem_iff, ← mem k]) ?_⟩
  · have e1 := keep b u e
    have lb := Heap.lt_size e1
    show (sortedHeap (s1.heap.push (seqObj "list" us.toArray 0)) s1.heap.objs.size us out.toArray).get? b = some u
    rw [sortedHeap_old (Nat.ne_of_lt lb) (by rw [Heap.size_push]; exact Nat.lt_succ_of_lt lb)]
    exact Heap.get?_push_of_some _ e1
  · rw [all.length_eq, List.length_map, Array.length_toList, len]
end
end Gs

namespace Dv
open PySem PySem.Spec PyProof.Rows L2 Gr
/-! ### sorted(set(l)) of a list of ints -/
/-- each once -/
def onceI : List Int → List Int
  | [] => []
  | x :: xs => if x ∈ xs then onceI xs else x :: onceI xs
def srtU (ns : List Int) : List Int := srtI (onceI ns)
def ssN : Option (List Int) → Sto → R D
  | some ns, S => if ns.length ≤ 4000 then .ok (.ref S.length) (S ++ [.lst true ((srtU ns).map D.int)]) else .no
  | none, _ => .no
def ssO : Option O → Sto → R D
  | some (.lst _ xs), S => ssN (intsD xs) S
  | _, _ => .no
def ssK : D → Sto → R D
  | .ref i, S => ssO S[i]? S
  | _, _ => .no
def dSS (a : Den) : Den := fun lv ρ S => (a lv ρ S).bind ssK
section
variable {X : Cx} {EX : EXT} {lv : Lv} {tabs : List Tb} {a : Expr} {da : Den} {p p2 q pos : Pos}
end
@[simp] theorem ev_ss {a : Den} {lv : Lv} {ρ : Dv.Env} {S : Sto} : dSS a lv ρ S = (a lv ρ S).bind ssK := id rfl
@[simp] theorem ssK_r {i : Nat} {S : Sto} : ssK (.ref i) S = ssO S[i]? S := id rfl
theorem ssO_l {w : Bool} {ns : List Int} {S : Sto} (h : ns.length ≤ 4000) : ssO (some (.lst w (ns.map D.int))) S = .ok (.ref S.length) (S ++ [.lst true ((srtU ns).map D.int)]) := by
  unfold ssO
  simp only [intsD_of, ssN, if_pos h]
end Dv

/-! a lambda made, its code object known for good -/
namespace Gv
open PySem PySem.Spec PyProof.Rows L2 Dv
section
variable {X : Cx} {pins : List (Addr × Obj)} {σ : L2.St} {H : Hp} {s : Shared}
end
end Gv

/-! a lambda called by sorted: what stands in the heap stays as it is -/
namespace Gw
open PySem PySem.Spec PyProof.Rows L2
section
variable {prog : Program} {w : World} {A : Around} {s : Shared}
end
end Gw

/-! sorted(e, key=lambda y: y.count(None)) -/
namespace Gw
open PySem PySem.Spec PyProof.Rows L2 Dv
/-- things sorted by numbers -/
def srtK {α : Type} (xs : List α) (ns : List Nat) : List α := ((xs.zip ns).mergeSort fun a b => decide (a.2 ≤ b.2)).map (·.1)
section
variable {X : Cx} {e : Expr} {te : TE} {p lpos pos p1 p2 p3 p4 kpos : Pos} {c P : Addr} {q y : Str} {params : Arguments} {scope : Scope}
end
end Gw

/-! sorted by how many None there are -/
namespace Dv
open PySem PySem.Spec PyProof.Rows L2
section
variable {K : PySem.W.Frag} {tabs : List Tb} {ι : List Addr} {S : Sto} {H H2 : Hp} {P : Addr} {q : Str}
end
section
variable {K : PySem.W.Frag} {ι : List Addr} {H : Hp} {S : Sto}
end
section
variable {X : Cx} {tabs : List Tb} {EX : EXT} {lv : Lv} {e : Expr} {de : Den} {p lpos pos p1 p2 p3 p4 kpos : Pos} {c P : Addr} {q y : Str} {params : Arguments} {scope : Scope}
end
end Dv

namespace Dv
open PySem PySem.Spec PyProof.Rows L2 Gr
/-! ### the module's tuples of ints -/
def GI (K : PySem.W.Frag) (mg : Str → Option Value) (x : Str) (ks : List Int) : Prop :=
  ∃ (a : Addr) (o : Obj) (its : Array Value) (n : Nat), mg x = some (.ref a) ∧ K.lookup a = some o ∧ o.cls = .type "tuple" ∧ o.dict = none ∧ o.data = .seq its n ∧ its.size ≤ sizeLine ∧ Vals (ks.map V.int) its.toList
end Dv

/-! a list cut with a step that is worked out: 1 or -1 -/
namespace Dv
open PySem PySem.Spec PyProof.Rows L2
section
variable {X : Cx} {e es : Expr} {te ts : TE}
end
section
variable {X : Cx} {tabs : List Tb} {EX : EXT} {lv : Lv} {e es : Expr} {de des : Den}
end
end Dv

namespace Dv
open PySem PySem.Spec PyProof.Rows L2 Gr
/-! ### o[i], p[j] = a pair -/
def swK (o1 i1 o2 i2 : Den) (lv : Lv) (ρ : Env) : D → Sto → R Fl := fun d S => match d with
  | .tup [v, w] => (o1 lv ρ S).bindS ρ fun x S1 => (i1 lv ρ S1).bindS ρ fun y S2 => (setD x y v S2).bindS ρ fun _ S3 => (o2 lv ρ S3).bindS ρ fun x2 S4 => (i2 lv ρ S4).bindS ρ fun y2 S5 => (setD x2 y2 w S5).bindS ρ fun _ S6 => .ok (.nx ρ) S6
  | _ => .no
def sSwp (o1 i1 o2 i2 e : Den) : DenS := fun lv ρ S => (e lv ρ S).bindS ρ (swK o1 i1 o2 i2 lv ρ)
@[simp] theorem ev_swp {o1 i1 o2 i2 e : Den} {lv : Lv} {ρ : Env} {S : Sto} : sSwp o1 i1 o2 i2 e lv ρ S = (e lv ρ S).bindS ρ (swK o1 i1 o2 i2 lv ρ) := id rfl
section
variable {X : Cx} {EX : EXT} {lv : Lv} {pos : Pos}
end
end Dv

namespace Dv
open PySem PySem.Spec PyProof.Rows L2 Gr
/-- the numbers from i to below j -/
def upFr (i j : Int) : List D := (List.range (j - i).toNat).map fun (k : Nat) => .int (i + (k : Int))
def lr2K (x : D) : D → Sto → R D := fun y S => match x, y with
  | .int i, .int j => if 0 ≤ i ∧ i ≤ 100000 ∧ 0 ≤ j ∧ j ≤ 100000 then .ok (.ref S.length) (S ++ [.lst true (upFr i j)]) else .no
  | _, _ => .no
@[simp] theorem lr2K_i {i j : Int} {S : Sto} : lr2K (.int i) (.int j) S = if 0 ≤ i ∧ i ≤ 100000 ∧ 0 ≤ j ∧ j ≤ 100000 then .ok (.ref S.length) (S ++ [.lst true (upFr i j)]) else .no := id rfl
def lr2J (b : Den) (lv : Lv) (ρ : Dv.Env) : D → Sto → R D := fun x S => (b lv ρ S).bind (lr2K x)
@[simp] theorem lr2J_ap {b : Den} {lv : Lv} {ρ : Dv.Env} {x : D} {S : Sto} : lr2J b lv ρ x S = (b lv ρ S).bind (lr2K x) := id rfl
def dLR2 (a b : Den) : Den := fun lv ρ S => (a lv ρ S).bind (lr2J b lv ρ)
@[simp] theorem ev_lr2 {a b : Den} {lv : Lv} {ρ : Dv.Env} {S : Sto} : dLR2 a b lv ρ S = (a lv ρ S).bind (lr2J b lv ρ) := id rfl
theorem upf_rep {K : PySem.W.Frag} {ι : List Addr} {H : Hp} {i j : Int} : RepL K ι H (upFr i j) (rgV i j) := by
  unfold upFr rgV
  generalize List.range (j - i).toNat = l
  induction l with
  | nil => exact rfl
  | cons a l ih => exact ⟨_, _, rfl, rfl, ih⟩
section
variable {X : Cx} {EX : EXT} {lv : Lv} {tabs : List Tb} {a b : Expr} {da db : Den} {p p2 pos pos2 : Pos}
end
/-! ### range(i, j, 2) -/
def rupR : List D → Sto → R Src
  | [.int i, .int j, .int c], S => if c = 2 ∧ 0 ≤ i ∧ i ≤ j ∧ j ≤ 1000 then .ok (.rup i 2 ((j - i + 1) / 2).toNat) S else .no
  | _, _ => .no
@[simp] theorem rupR_3 {i j c : Int} {S : Sto} : rupR [.int i, .int j, .int c] S = if c = 2 ∧ 0 ≤ i ∧ i ≤ j ∧ j ≤ 1000 then .ok (.rup i 2 ((j - i + 1) / 2).toNat) S else .no := id rfl
def iRange3u (a : DenA) : DenI := fun lv ρ S => (a lv ρ S).bind rupR
@[simp] theorem ev_rng3u {ra : DenA} {lv : Lv} {ρ : Dv.Env} {S : Sto} : iRange3u ra lv ρ S = (ra lv ρ S).bind rupR := id rfl
theorem rg_two {i j : Int} (h0 : 0 ≤ i) (h1 : i ≤ j) (h2 : j ≤ 1000) : RgC i j 2 ((j - i + 1) / 2).toNat := by
  have e : Builtin.Range.rangeSize i j 2 = (((j - i + 1) / 2).toNat : Int) := by
    unfold Builtin.Range.rangeSize
    simp
    split <;> omega
  refine ⟨by decide, by decide, ?_, e⟩
  unfold Builtin.Range.small
  rw [e]
  simp only [Builtin.Range.rangeFitsLong, Bool.and_eq_true, Bool.or_eq_true, decide_eq_true_eq, beq_iff_eq, show (2 : Int) > 0 by decide, if_true]
  omega
section
variable {X : Cx} {w : Wn} {EX : EXT} {lv : Lv} {p pos : Pos}
end
end Dv

namespace Dv
open PySem PySem.Spec PyProof.Rows L2 Gr
/-! ### any(l) of a list of ints -/
def anO : Option O → Sto → R D
  | some (.lst _ xs), S => match intsD xs with
    | some ns => .ok (.bl (ns.any fun n => n != 0)) S
    | none => .no
  | _, _ => .no
def anID : OpN
  | [.ref i], S => anO S[i]? S
  | _, _ => .no
section
variable {X : Cx}
end
section
variable {X : Cx} {tabs : List Tb}
end
section
variable {X : Cx} {tabs : List Tb} {EX : EXT} {lv : Lv} {ra : DenA} {e : Expr} {es : List Expr} {p pos : Pos}
end
@[simp] theorem an_r {i : Nat} {S : Sto} : anID [.ref i] S = anO S[i]? S := id rfl
@[simp] theorem anO_l {w : Bool} {ns : List Int} {S : Sto} : anO (some (.lst w (ns.map D.int))) S = .ok (.bl (ns.any fun n => n != 0)) S := by
  unfold anO
  simp only [intsD_of]
end Dv

/-! ### a generator whose consumer keeps a list of its own: sum, min -/
namespace Gs
open PySem PySem.Spec PyProof.Rows L2 GenW Gr Gx
/-- while the generator sleeps its consumer writes its list at S; all else is kept -/
structure Wrote (S : Addr) (acc : Array Value) (s s' : Shared) : Prop where
  os : s'.os = s.os
  bare : AllBare s'.gens
  keep : ∀ b o, b ≠ S → s.heap.get? b = some o → s'.heap.get? b = some o
  own : ∃ c, s'.heap.get? S = some (lstObj acc c)
/-- what came out, as it stands in the consumer's list -/
def GS (Rl : List V → Array Value → Prop) (X : Cx) (S : Addr) (ip : List (Addr × Obj)) (ys : List V) (σ : L2.St) (H : Hp) (s : Shared) : Prop :=
  ∃ (acc : Array Value) (c : Nat), Rl ys acc ∧ Inv X ((S, lstObj acc c) :: ip) σ H s
theorem GS.woken {Rl : List V → Array Value → Prop} {X : Cx} {S : Addr} {ys zs : List V} {acc2 : Array Value} {σ : L2.St} {H : Hp} {s s' : Shared} (n1 : ∀ p ∈ X.pn, p.1 ≠ S) (ap : Apart X S) (g : GS Rl X S [] ys σ H s) (r2 : Rl zs acc2) (z : Wrote S acc2 s s') :
    GS Rl X S [] zs σ H s' := by
  obtain ⟨acc, c, _, I⟩ := g
  obtain ⟨e0, h0, f0, l0, _⟩ := I.pin (S, lstObj acc c) (List.mem_append_right _ List.mem_cons_self)
  have I0 : Inv X [] σ H s := I.pins_of fun p hp => nomatch hp
  obtain ⟨os, bare, keep, c', e'⟩ := z
  rcases s' with ⟨m, gs, dr, tk, ox⟩
  obtain rfl : ox = s.os := os
  have out : ∀ {b}, b ∉ [S] → b ≠ S := fun hb e => hb (e ▸ List.mem_singleton.mpr rfl)
  have not : ∀ {b u}, H b = some u → b ≠ S := fun q e => by rw [e, h0] at q; cases q
  have J : Inv X [] σ H { s with heap := m, gens := gs, drawn := dr, toks := tk } := by
    refine I0.step (g' := gs) (t' := tk) (d' := dr) (ch := [S]) ?_ (fun b ob _ _ hc q _ => keep b ob (out hc) q) (fun b ob _ _ hc q _ => ⟨ob.slots, keep b ob (out hc) q⟩) (fun _ _ _ _ n => n) (fun b ob hc q => ⟨ob, keep b ob (out hc) q⟩)
      (fun _ _ q => q) (fun _ _ _ q => q) (fun b ps q => ⟨#[], by rw [q]; simp⟩) ?_ ?_ bare
    · intro b hb
      obtain rfl := List.mem_singleton.mp hb
      exact ⟨.inr ap.1, ap.2.1, ap.2.2, fun p hp => n1 p (by simpa using hp)⟩
    · rintro k ⟨ob, es, ep, ho, r⟩
      exact ⟨ob, es, ep, keep _ ob (Ne.symm f0) ho, r⟩
    · intro b u q
      refine (I0.hok b u q).stay (fun d v hd y => keep d v ?_ y) (fun _ y => y) fun _ _ y => y
      rcases hd with rfl | y
      · exact not q
      · exact not y
  refine ⟨acc2, c', r2, J.pins_of fun p hp => ?_⟩
  obtain rfl := List.mem_singleton.mp hp
  exact ⟨e', h0, f0, l0, fun v q => nomatch q⟩
section
variable {X : Cx} {pins : List (Addr × Obj)} {σ : L2.St}
end
section
variable {P : Program} {w : World} {A : Around} {Rl : List V → Array Value → Prop} {Ok : List V → V → Prop}
end
section
variable {X : Cx} {pins : List (Addr × Obj)} {σ : L2.St} {H : Hp} {s : Shared}
end
end Gs

/-! ### sum and min of a generator expression -/
namespace Gs
open PySem PySem.Spec PyProof.Rows L2 GenW Gr Gx
theorem Wrote.upd {S : Addr} {s : Shared} {acc acc2 : Array Value} {c : Nat} {G : Array GenState} {tk : Nat} (hS : s.heap.get? S = some (lstObj acc c)) (hG : AllBare G) : Wrote S acc2 s { s with gens := G, heap := s.heap.update S (Obj.mapSeq fun _ => acc2), toks := tk } where
  os := rfl
  bare := hG
  keep := fun b o hb e => (Heap.get?_update_other _ _ (Ne.symm hb)).trans e
  own := ⟨_, Heap.get?_update_self _ hS rfl⟩
section
variable {X : Cx} {pins : List (Addr × Obj)} {σ : L2.St} {A : Around} {QE : List V → Hp → Prop}
end
end Gs
namespace Gs
open PySem PySem.Spec PyProof.Rows L2 GenW Gr Gx
section
variable {X : Cx} {pins : List (Addr × Obj)} {σ : L2.St} {A : Around} {QE : List V → Hp → Prop}
end
end Gs

namespace Gs
open PySem PySem.Spec PyProof.Rows L2 GenW Gr Gx
section
variable {X : Cx} {pins : List (Addr × Obj)} {σ : L2.St} {H0 : Hp} {s : Shared} {QE : List V → Hp → Prop}
end
end Gs

namespace Gs
open PySem PySem.Spec PyProof.Rows L2 GenW Gr Gx
section
variable {X : Cx} {c P : Addr} {elt tg iter : Expr} {ifs : List Expr} {scope : Scope} {gpos p pos : Pos} {own : List (Str × Nat)} {wi : TI} {gt : TG} {tt : TT} {te : TE} {j : Nat} {QQ : VK → List V → Hp → Prop}
end
end Gs
namespace Dv
open PySem PySem.Spec PyProof.Rows L2 Gr
/-! ### sum(gen), min(gen) -/
open Classical in
noncomputable def giGo (chk : Sto → Prop) (t : Tg) (cond : Env → Sto → R Bool) (elt : Env → Sto → R D) (ρ : Env) : List D → List Int → Sto → R (List Int)
  | [], acc, S => if chk S then .ok acc S else .no
  | x :: xs, acc, S => if chk S then (match tgD t x ρ with
    | some ρ1 => (quiet (cond ρ1 S)).bind fun b S1 => if b = true then (quiet (elt ρ1 S1)).bind fun y S2 => match y with
        | .int i => giGo chk t cond elt ρ xs (acc ++ [i]) S2
        | _ => .no
      else giGo chk t cond elt ρ xs acc S1
    | none => .no) else .no
noncomputable def giK (k : List Int → Sto → R D) (t : Tg) (cond : DenT) (elt : Den) (vs : List Nat) (lv : Lv) (ρ : Env) : Src → Sto → R D := fun src S1 => (giGo src.chk t (cond lv.dn) (elt lv.dn) (wipeE ρ vs) src.items [] S1).bind k
noncomputable def dGi (k : List Int → Sto → R D) (di : DenI) (t : Tg) (cond : DenT) (elt : Den) (vs : List Nat) : Den := fun lv ρ S => (di lv ρ S).bind (giK k t cond elt vs lv ρ)
@[simp] theorem ev_gi {k : List Int → Sto → R D} {di : DenI} {t : Tg} {cond : DenT} {elt : Den} {vs : List Nat} {lv : Lv} {ρ : Env} {S : Sto} : dGi k di t cond elt vs lv ρ S = (di lv ρ S).bind (giK k t cond elt vs lv ρ) := id rfl
@[simp] theorem giK_ap {k : List Int → Sto → R D} {t : Tg} {cond : DenT} {elt : Den} {vs : List Nat} {lv : Lv} {ρ : Env} {S : Sto} {src : Src} : giK k t cond elt vs lv ρ src S = (giGo src.chk t (cond lv.dn) (elt lv.dn) (wipeE ρ vs) src.items [] S).bind k := id rfl
section
variable {X : Cx} {w : Wn} {EX : EXT} {lv : Lv} {σ : L2.St} {H : Hp} {ρ : Env} {S : Sto} {ι : List Addr} {elt tg iter : Expr} {ifs : List Expr} {scope : Scope} {own : List (Str × Nat)} {p pos : Pos} {di : DenI} {t : Tg} {tc : DenT} {de : Den}
end
end Dv

namespace Dv
open PySem PySem.Spec PyProof.Rows L2 Gr
/-! ### comprehensions with two sources -/
open Classical in
noncomputable def lcIn (n : Nat) (chk : Sto → Prop) (t : Tg) (cond : Env → Sto → R Bool) (elt : Env → Sto → R D) (ρ : Env) (k : Sto → R D) : List D → Sto → R D
  | [], S => if chk S then k S else .no
  | x :: xs, S => if chk S then (match tgD t x ρ with
    | some ρ1 => (quiet (cond ρ1 S)).bind fun b S1 => if b = true then (quiet (elt ρ1 S1)).bind fun y S2 => match S2[n]? with
        | some (.lst true acc) => if acc.length < mx then lcIn n chk t cond elt ρ k xs (S2.set n (.lst true (acc ++ [y]))) else .no
        | _ => .no
      else lcIn n chk t cond elt ρ k xs S1
    | none => .no) else .no
open Classical in
noncomputable def lcOut (n : Nat) (chk : Sto → Prop) (t : Tg) (cond : Env → Sto → R Bool) (di : Env → Sto → R Src) (t1 : Tg) (cond1 : Env → Sto → R Bool) (elt : Env → Sto → R D) (vs1 : List Nat) (ρ : Env) : List D → Sto → R D
  | [], S => if chk S then .ok (.ref n) S else .no
  | x :: xs, S => if chk S then (match tgD t x ρ with
    | some ρ1 => (quiet (cond ρ1 S)).bind fun b S1 => if b = true then (quiet (di ρ1 S1)).bind fun src S2 => lcIn n src.chk t1 cond1 elt (wipeE ρ1 vs1) (fun S3 => lcOut n chk t cond di t1 cond1 elt vs1 ρ xs S3) src.items S2
      else lcOut n chk t cond di t1 cond1 elt vs1 ρ xs S1
    | none => .no) else .no
noncomputable def lc2K (t : Tg) (cond : DenT) (di1 : DenI) (t1 : Tg) (cond1 : DenT) (elt : Den) (vs vs1 : List Nat) (lv : Lv) (ρ : Env) : Src → Sto → R D := fun src S => lcOut S.length src.chk t (cond lv) (di1 lv) t1 (cond1 lv) (elt lv) vs1 (wipeE ρ vs) src.items (S ++ [.lst true []])
noncomputable def dLc2 (di : DenI) (t : Tg) (cond : DenT) (di1 : DenI) (t1 : Tg) (cond1 : DenT) (elt : Den) (vs vs1 : List Nat) : Den := fun lv ρ S => (di lv ρ S).bind (lc2K t cond di1 t1 cond1 elt vs vs1 lv ρ)
@[simp] theorem ev_lc2 {di : DenI} {t : Tg} {cond : DenT} {di1 : DenI} {t1 : Tg} {cond1 : DenT} {elt : Den} {vs vs1 : List Nat} {lv : Lv} {ρ : Env} {S : Sto} : dLc2 di t cond di1 t1 cond1 elt vs vs1 lv ρ S = (di lv ρ S).bind (lc2K t cond di1 t1 cond1 elt vs vs1 lv ρ) := id rfl
@[simp] theorem lc2K_ap {t : Tg} {cond : DenT} {di1 : DenI} {t1 : Tg} {cond1 : DenT} {elt : Den} {vs vs1 : List Nat} {lv : Lv} {ρ : Env} {S : Sto} {src : Src} : lc2K t cond di1 t1 cond1 elt vs vs1 lv ρ src S = lcOut S.length src.chk t (cond lv) (di1 lv) t1 (cond1 lv) (elt lv) vs1 (wipeE ρ vs) src.items (S ++ [.lst true []]) := id rfl
section
variable {X : Cx} {w : Wn} {EX : EXT} {lv : Lv} {σ : L2.St} {H : Hp} {ρ : Env} {S : Sto} {ι : List Addr} {elt tg iter tg1 iter1 : Expr} {ifs ifs1 : List Expr} {scope : Scope} {own : List (Str × Nat)} {vs1 : List Nat} {p pos : Pos} {di di1 : DenI} {t t1 : Tg} {tc tc1 : DenT} {de : Den}
end
end Dv
namespace Dv
open PySem PySem.Spec PyProof.Rows L2 Gr
/-- the parts of the inner source, in every block of it -/
structure LParts2 (X : Cx) (scope : Scope) (tg iter : Expr) (ifs : List Expr) (wi : TI) (gt : TG) (tt : TT) : Prop where
  i : ∀ (s : Shared) (H : Hp) (C : Addr) (cl : List (Str × Addr)) (fp : List Addr), PI (X.blk s H scope (compEnvC scope cl C X.env) fp) tg iter wi
  g : ∀ (s : Shared) (H : Hp) (C : Addr) (cl : List (Str × Addr)) (fp : List Addr), PG (X.blk s H scope (compEnvC scope cl C X.env) fp) tg gt
  t : ∀ (s : Shared) (H : Hp) (C : Addr) (cl : List (Str × Addr)) (fp : List Addr), PTs (X.blk s H scope (compEnvC scope cl C X.env) fp) ifs tt
section
variable {X : Cx} {w : Wn} {EX : EXT} {lv : Lv} {elt tg iter tg1 iter1 : Expr} {ifs ifs1 : List Expr} {scope : Scope} {p pos spos py : Pos} {di di1 : DenI} {t t1 : Tg} {tc tc1 : DenT} {de : Den} {y : Str}
end
end Dv

/-! ### list(zip(a, b, c)), three lists; the tuples handed out stay -/
namespace Zt
open PySem PySem.Spec PyProof.Rows L2 PySem.W
section
variable {P : Program} {w : World} {A : Around} {E : Value → Shared → Prop} {s : Shared} {z TI TO T i1 i2 i3 : Addr} {g1 g2 g3 : List Addr} {n1 n2 n3 i : Nat} {P1 P2 P3 : Nat → Value → Prop} {R1 R2 R3 : Nat → Heap → Prop} {f : Bool} {oT : Obj}
end
/-! the state ahead of turn j -/
open Zy in
structure Z3 (h : Heap) (z TI TO i1 i2 i3 a b c : Addr) (j : Nat) : Prop where
  ti : IsTupOf3 h TI (.ref i1) (.ref i2) (.ref i3)
  p1 : h.IsListIter i1 a j
  p2 : h.IsListIter i2 b j
  p3 : h.IsListIter i3 c j
  zz : (IsZip h z TI TO .none ∧ ∃ x y u, IsTupOf3 h TO x y u) ∨ ∃ T f oT, IsZipHeld h z TI TO T f ∧ h.get? T = some oT ∧ (∃ oO, h.get? TO = some oO) ∧ T ∉ [z, TI, TO, i1, i2, i3]
theorem Z3.at {h h' : Heap} {z TI TO i1 i2 i3 a b c : Addr} {j : Nat} {L : Addr} (st : Z3 h z TI TO i1 i2 i3 a b c j) (n : L ∉ [z, TI, TO, i1, i2, i3]) (hk : ∀ c o, c ≠ L → h.get? c = some o → h'.get? c = some o)
    (ho : ∀ o, h.get? L = some o → ∃ o', h'.get? L = some o') : Z3 h' z TI TO i1 i2 i3 a b c j := by
  have ne : ∀ {d}, d ∈ [z, TI, TO, i1, i2, i3] → d ≠ L := fun hd e => n (e ▸ hd)
  obtain ⟨ti, p1, p2, p3, w⟩ := st
  refine ⟨hk _ _ (ne (by simp)) ti, p1.at fun o e => hk _ o (ne (by simp)) e, p2.at fun o e => hk _ o (ne (by simp)) e, p3.at fun o e => hk _ o (ne (by simp)) e, ?_⟩
  rcases w with ⟨w1, x, y, u, w2⟩ | ⟨T, f, oT, w1, w2, ⟨oO, w4⟩, w3⟩
  · exact .inl ⟨hk _ _ (ne (by simp)) w1, x, y, u, hk _ _ (ne (by simp)) w2⟩
  · by_cases e : T = L
    · subst e
      obtain ⟨o', e'⟩ := ho _ w2
      exact .inr ⟨T, f, o', hk _ _ (ne (by simp)) w1, e', ⟨oO, hk _ _ (ne (by simp)) w4⟩, w3⟩
    · exact .inr ⟨T, f, oT, hk _ _ (ne (by simp)) w1, hk _ _ e w2, ⟨oO, hk _ _ (ne (by simp)) w4⟩, w3⟩
section
variable {X : Cx} {pins : List (Addr × Obj)} {σ : L2.St}
end
end Zt
namespace Dv
open PySem PySem.Spec PyProof.Rows L2 Gr
def z3T (p : D × D × D) : D := .tup [p.1, p.2.1, p.2.2]
def zip3L (xs ys zs : List D) : List D := (xs.zip (ys.zip zs)).map z3T
def lz3O : Option O → Option O → Option O → Sto → R D
  | some (.lst _ xs), some (.lst _ ys), some (.lst _ zs), S => if xs.length ≤ mx then .ok (.ref S.length) (S ++ [.lst true (zip3L xs ys zs)]) else .no
  | _, _, _, _ => .no
def lz3K : List D → Sto → R D
  | [.ref i, .ref j, .ref k], S => lz3O S[i]? S[j]? S[k]? S
  | _, _ => .no
def dLZ3 (a : DenA) : Den := fun lv ρ S => (a lv ρ S).bind lz3K
@[simp] theorem ev_lz3 {a : DenA} {lv : Lv} {ρ : Env} {S : Sto} : dLZ3 a lv ρ S = (a lv ρ S).bind lz3K := id rfl
@[simp] theorem lz3K_r {i j k : Nat} {S : Sto} : lz3K [.ref i, .ref j, .ref k] S = lz3O S[i]? S[j]? S[k]? S := id rfl
@[simp] theorem lz3O_l {a b c : Bool} {xs ys zs : List D} {S : Sto} : lz3O (some (.lst a xs)) (some (.lst b ys)) (some (.lst c zs)) S = if xs.length ≤ mx then .ok (.ref S.length) (S ++ [.lst true (zip3L xs ys zs)]) else .no := id rfl
section
variable {X : Cx} {tabs : List Tb} {EX : EXT} {lv : Lv} {ra : DenA} {e e2 e3 : Expr} {p q pos zpos : Pos}
end
end Dv

namespace Pn
open PySem PySem.Spec PyProof.Rows L2 Dv
/-- the class of the first number catches that of the second -/
def xq : Nat → Nat → Bool := (fun j => match j with | 0 => (fun i => match i with | 0 => true | 1 => false | 2 => false | 3 => false | 4 => false | 5 => false | 6 => false | 7 => false | 8 => false | _ => false) | 1 => (fun i => match i with | 0 => true | 1 => true | 2 => true | 3 => true | 4 => true | 5 => true | 6 => true | 7 => true | 8 => true | _ => true) | 2 => (fun i => match i with | 0 => false | 1 => false | 2 => true | 3 => false | 4 => false | 5 => false | 6 => false | 7 => false | 8 => false | _ => false) | 3 => (fun i => match i with | 0 => false | 1 => false | 2 => false | 3 => true | 4 => false | 5 => false | 6 => false | 7 => false | 8 => false | _ => false) | 4 => (fun i => match i with | 0 => false | 1 => false | 2 => false | 3 => false | 4 => true | 5 => false | 6 => false | 7 => false | 8 => false | _ => false) | 5 => (fun i => match i with | 0 => false | 1 => false | 2 => false | 3 => false | 4 => false | 5 => true | 6 => false | 7 => false | 8 => false | _ => false) | 6 => (fun i => match i with | 0 => false | 1 => false | 2 => false | 3 => false | 4 => false | 5 => false | 6 => true | 7 => false | 8 => false | _ => false) | 7 => (fun i => match i with | 0 => false | 1 => false | 2 => false | 3 => false | 4 => false | 5 => false | 6 => false | 7 => true | 8 => false | _ => false) | 8 => (fun i => match i with | 0 => false | 1 => false | 2 => false | 3 => false | 4 => false | 5 => false | 6 => false | 7 => false | 8 => true | _ => false) | _ => (fun i => match i with | 0 => false | 1 => false | 2 => false | 3 => false | 4 => false | 5 => false | 6 => false | 7 => false | 8 => false | _ => true))
def xnm : Nat → Str := fun j => match j with | 0 => "NoWeb" | 1 => "AskError" | 2 => "NoBack" | 3 => "NoFrame" | 4 => "NoGrowth" | 5 => "NoRow" | 6 => "NoText" | 7 => "NoTie" | 8 => "NoTruth" | _ => "NoTurn"
def KIS : List Nat := [0, 2, 3, 4, 5, 6, 7, 8, 9]
theorem bt_VE : bootBuiltins "ValueError" = some (.type "ValueError") := by decide +kernel
/-- is_whole -/
noncomputable def dn_0 : DenS := (sRet (dAndV (dIsi .int (dVar 0)) (dUn notD (dIsi .bl (dVar 0)))))
/-- is_place -/
noncomputable def dn_1 : DenS := (sRet (dAndV (dCallF 0 1 (dCons (dVar 1) dNil)) (dChain (dC (.int 0)) (kLink leD (dVar 1) (kLast ltD (dVar 0))))))
/-- is_pair -/
noncomputable def dn_2 : DenS := (sSeq (sIf (dOrT (dNotT (dTru (dIsi .tup (dVar 1)))) (dBl (dOp neD (dCl lenD (dCons (dVar 1) dNil)) (dC (.int 2))))) (sRet (dC (.bl false))) sNil)
    (sRet (dAndV (dCallF 1 2 (dCons (dVar 0) (dCons (dOp ixD (dVar 1) (dC (.int 0))) dNil))) (dAndV (dCallF 1 2 (dCons (dVar 0) (dCons (dOp ixD (dVar 1) (dC (.int 1))) dNil))) (dOp neD (dOp ixD (dVar 1) (dC (.int 0))) (dOp ixD (dVar 1) (dC (.int 1))))))))
/-- is_rising -/
noncomputable def dn_3 : DenS := (sRet (dAb false (iRange1 (dCons (dOp subD (dCl lenD (dCons (dVar 0) dNil)) (dC (.int 1))) dNil)) (.nm 1) tYesD (dOp ltD (dOp ixD (dVar 0) (dVar 1)) (dOp ixD (dVar 0) (dOp addD (dVar 1) (dC (.int 1))))) [1]))
/-- sorted_ties -/
noncomputable def dn_4 : DenS := (sSeq (sIf (dNotT (dTru (dIsi2 .lst .tup (dVar 1)))) (sRet (dC .non)) sNil)
    (sSeq (sIf (dNotT (dTru (dAb false (iVal (dVar 1)) (.nm 2) tYesD (dCallF 2 2 (dCons (dVar 0) (dCons (dVar 2) dNil))) [2]))) (sRet (dC .non)) sNil)
    (sRet (dCl tupleD (dCons (dSg (iVal (dVar 1)) (.nm 2) tYesD (dTup (dCons (dCl min1D (dCons (dVar 2) dNil)) (dCons (dCl max1D (dCons (dVar 2) dNil)) dNil))) [2]) dNil)))))
/-- is_tie -/
noncomputable def dn_5 : DenS := (sRet (dAndV (dCallF 2 2 (dCons (dOp ixD (dVar 0) (dC (.int 0))) (dCons (dVar 1) dNil))) (dOp inD (dVar 1) (dOp ixD (dVar 0) (dC (.int 1))))))
/-- is_web -/
noncomputable def dn_6 : DenS := (sSeq (sIf (dNotT (dTru (dIsi .tup (dVar 1)))) (sRet (dC (.bl false))) sNil)
    (sRet (dAndV (dAb false (iVal (dVar 1)) (.nm 2) tYesD (dCallF 5 2 (dCons (dVar 0) (dCons (dVar 2) dNil))) [2]) (dCallF 3 1 (dCons (dVar 1) dNil)))))
/-- web_of -/
noncomputable def dn_7 : DenS := (sSeq (sAsg (.nm 2) (dCallF 4 2 (dCons (dOp ixD (dVar 0) (dC (.int 0))) (dCons (dVar 1) dNil))))
    (sSeq (sIf (dNotT (dTru (dCallF 6 2 (dCons (dVar 0) (dCons (dVar 2) dNil))))) (sRz 0) sNil)
    (sRet (dVar 2))))
/-- _law_pen -/
noncomputable def dn_8 : DenS := (sSeq (sAsg (.nm 2) (dOp addD (dOp mulD (dC (.int 30011)) (dVar 1)) (dC (.int 5))))
    (sSeq (sIf (dBl (dOp gtD (dCl lenD (dCons (dVar 0) dNil)) (dC (.int 0)))) (sAsg (.nm 2) (dOp addD (dOp ixD (dVar 0) (dOp modD (dVar 1) (dCl lenD (dCons (dVar 0) dNil)))) (dOp mulD (dC (.int 52009)) (dOp fdivD (dVar 1) (dCl lenD (dCons (dVar 0) dNil)))))) sNil)
    (sSeq (sAsg (.nm 3) (dC (.int 0)))
    (sSeq (sIf (dBl (dOp geD (dCl absD (dCons (dVar 2) dNil)) (dOp powD (dC (.int 10)) (dC (.int 18))))) (sAsg (.nm 3) (dCl absD (dCons (dVar 2) dNil))) sNil)
    (sRet (dLst (dCons (dVar 3) (dCons (dOp modD (dOp addD (dOp addD (dOp mulD (dOp modD (dVar 2) (dC (.int 2147483587))) (dC (.int 39373))) (dOp mulD (dC (.int 28657)) (dVar 1))) (dC (.int 3))) (dC (.int 2147483629))) dNil))))))))
/-- _law_take -/
noncomputable def dn_9 : DenS := (sSeq (sIf (dBl (dOp gtD (dOp ixD (dVar 0) (dC (.int 0))) (dC (.int 0)))) (sSeq (sAsg (.nm 2) (dOp modD (dOp ixD (dVar 0) (dC (.int 0))) (dVar 1)))
    (sSeq (sSub (dVar 0) (dC (.int 0)) (dOp fdivD (dOp ixD (dVar 0) (dC (.int 0))) (dVar 1)))
    (sRet (dVar 2)))) sNil)
    (sSeq (sAsg (.nm 3) (dOp modD (dOp addD (dOp mulD (dOp ixD (dVar 0) (dC (.int 1))) (dC (.int 48271))) (dC (.int 17))) (dC (.int 2147483647))))
    (sSeq (sSub (dVar 0) (dC (.int 1)) (dVar 3))
    (sRet (dOp modD (dOp fdivD (dOp modD (dOp addD (dOp mulD (dVar 3) (dOp addD (dOp modD (dVar 3) (dC (.int 65519))) (dC (.int 5)))) (dOp fdivD (dVar 3) (dC (.int 65519)))) (dC (.int 2147483579))) (dC (.int 64))) (dVar 1))))))
/-- _law_frame -/
noncomputable def dn_10 : DenS := (sSeq (sAsg (.nm 1) (dOp addD (dC (.int 1)) (dCallF 9 2 (dCons (dVar 0) (dCons (dC (.int 8)) dNil)))))
    (sSeq (sAsg (.nm 2) (dLst dNil))
    (sSeq (sFor (iRange1 (dCons (dVar 1) dNil)) (.nm 3) (sAsg (.nm 2) (dOp addD (dVar 2) (dLc (iRange1 (dCons (dVar 3) dNil)) (.nm 6) tYesD (dTup (dCons (dVar 6) (dCons (dVar 3) dNil))) [6]))))
    (sSeq (sAsg (.nm 4) (dLst dNil))
    (sSeq (sFor (iRange1 (dCons (dCl minD (dCons (dCallF 9 2 (dCons (dVar 0) (dCons (dC (.int 8)) dNil))) (dCons (dCl lenD (dCons (dVar 2) dNil)) dNil))) dNil)) (.nm 5) (sExpr (dMt appendD (dVar 4) (dCons (dMt popAtD (dVar 2) (dCons (dCallF 9 2 (dCons (dVar 0) (dCons (dCl lenD (dCons (dVar 2) dNil)) dNil))) dNil)) dNil))))
    (sRet (dTup (dCons (dVar 1) (dCons (dCl tupleD (dCons (dCl sortedD (dCons (dVar 4) dNil)) dNil)) dNil)))))))))
/-- _law_whole -/
noncomputable def dn_11 : DenS := (sRet (dAndV (dIsi .int (dVar 0)) (dUn notD (dIsi .bl (dVar 0)))))
/-- _law_ties -/
noncomputable def dn_12 : DenS := (sSeq (sIf (dNotT (dTru (dIsi2 .lst .tup (dVar 1)))) (sRet (dC .non)) sNil)
    (sSeq (sAsg (.nm 2) (dLst dNil))
    (sSeq (sFor (iVal (dVar 1)) (.nm 3) (sSeq (sIf (dOrT (dNotT (dTru (dIsi .tup (dVar 3)))) (dOrT (dBl (dOp neD (dCl lenD (dCons (dVar 3) dNil)) (dC (.int 2)))) (dOrT (dNotT (dTru (dCallF 11 1 (dCons (dOp ixD (dVar 3) (dC (.int 0))) dNil)))) (dNotT (dTru (dCallF 11 1 (dCons (dOp ixD (dVar 3) (dC (.int 1))) dNil))))))) (sRet (dC .non)) sNil)
    (sSeq (sAsg (.nm 4) (dTup (dCons (dCl min1D (dCons (dVar 3) dNil)) (dCons (dCl max1D (dCons (dVar 3) dNil)) dNil))))
    (sSeq (sIf (dOrT (dBl (dOp ninD (dVar 4) (dOp ixD (dVar 0) (dC (.int 1))))) (dBl (dOp inD (dVar 4) (dVar 2)))) (sRet (dC .non)) sNil)
    (sExpr (dMt appendD (dVar 2) (dCons (dVar 4) dNil)))))))
    (sRet (dVar 2)))))
/-- _law_told -/
noncomputable def dn_13 : DenS := (sSeq (sAsg (.nm 3) (dC .non))
    (sSeq (sAsg (.nm 4) (dC .non))
    (sSeq (sIf (dTru (dVar 2)) (sTryK 1 (xq 1) xnm 5 3 (sAsg (.nm 4) (dCallF 7 2 (dCons (dVar 0) (dCons (dVar 1) dNil))))) (sTryK 1 (xq 0) xnm 5 3 (sAsg (.nm 4) (dCallF 7 2 (dCons (dVar 0) (dCons (dVar 1) dNil))))))
    (sSeq (sIf (dBl (dOp isND (dVar 3) (dC .non))) (sRet (dTup (dCons (dC (.str "made")) (dCons (dVar 4) dNil)))) sNil)
    (sSeq (sIf (dTru (dIsx 1 (isA xq [2, 3, 4, 5, 6, 7, 8, 9]) xnm (dVar 3))) (sRet (dTup (dCons (dC (.str "other")) (dCons (dC .non) dNil)))) sNil)
    (sRet (dTup (dCons (dOp ixD (dLst (dCons (dC (.str "other")) (dCons (dC (.str "refused")) dNil))) (dCl intD (dCons (dAndV (dIsx 1 (xq 0) xnm (dVar 3)) (dIsx 1 (fun _ => true) xnm (dVar 3))) dNil))) (dCons (dC .non) dNil)))))))))
/-- _law_deep -/
noncomputable def dn_14 : DenS := (sSeq (sAsg (.nm 1) (dOp ixD (dLst (dCons (dC (.int 0)) (dCons (dC .non) (dCons (dTup (dCons (dC (.int 0)) (dCons (dC (.int 1)) dNil))) (dCons (dC (.bl true)) dNil))))) (dCallF 9 2 (dCons (dVar 0) (dCons (dC (.int 4)) dNil)))))
    (sSeq (sFor (iRange1 (dCons (dC (.int 25)) dNil)) (.nm 2) (sAsg (.nm 1) (dOp ixD (dLst (dCons (dTup (dCons (dVar 1) dNil)) (dCons (dLst (dCons (dVar 1) dNil)) (dCons (dTup (dCons (dC (.int 0)) (dCons (dVar 1) dNil))) dNil)))) (dCallF 9 2 (dCons (dVar 0) (dCons (dC (.int 3)) dNil))))))
    (sRet (dVar 1))))
/-- _law_spoilt -/
noncomputable def dn_15 : DenS := (sSeq (sAsg (.nm 3) (dOp ixD (dVar 1) (dC (.int 0))))
    (sSeq (sAsg (.nm 4) (dCallF 9 2 (dCons (dVar 0) (dCons (dC (.int 10)) dNil))))
    (sSeq (sAsg (.nm 5) (dCallF 9 2 (dCons (dVar 0) (dCons (dOp addD (dCl lenD (dCons (dVar 2) dNil)) (dC (.int 1))) dNil))))
    (sSeq (sAsg (.tp [6, 7]) (dOp ixD (dOp addD (dVar 2) (dTup (dCons (dTup (dCons (dC (.int 0)) (dCons (dC (.int 1)) dNil))) dNil))) (dVar 5)))
    (sSeq (sAsg (.nm 8) (dOp ixD (dLst (dCons (dVar 3) (dCons (dUn negD (dC (.int 1))) (dCons (dC (.bl true)) (dCons (dC (.bl false)) (dCons (dC .non) (dCons (dC (.str "1")) (dCons (dOp powD (dC (.int 10)) (dC (.int 29))) (dCons (dCallF 14 1 (dCons (dVar 0) dNil)) (dCons (dC (.int 0)) (dCons (dOp subD (dVar 3) (dC (.int 1))) (dCons dDk0 (dCons (dLst (dCons (dVar 6) dNil)) dNil))))))))))))) (dCallF 9 2 (dCons (dVar 0) (dCons (dC (.int 12)) dNil)))))
    (sSeq (sAsg (.nm 9) (dLst (dCons (dTup (dCons (dVar 7) (dCons (dVar 6) dNil))) (dCons (dTup (dCons (dVar 6) (dCons (dVar 8) dNil))) (dCons (dTup (dCons (dVar 8) (dCons (dVar 7) dNil))) (dCons (dLst (dCons (dVar 6) (dCons (dVar 7) dNil))) (dCons (dTup (dCons (dVar 6) dNil)) (dCons (dTup (dCons (dVar 6) (dCons (dVar 7) (dCons (dVar 7) dNil)))) (dCons (dTup (dCons (dVar 7) (dCons (dVar 7) dNil))) dNil)))))))))
    (sSeq (sAsg (.nm 10) (dOp ixD (dOp addD (dVar 9) (dLst (dCons (dC .non) (dCons (dC (.str "01")) (dCons (dTup dNil) (dCons (dC (.int 0)) (dCons dDk0 (dCons (dTup (dCons (dOp gtD (dVar 6) (dC (.int 0))) (dCons (dOp gtD (dVar 7) (dC (.int 0))) dNil))) (dCons (dVar 8) dNil))))))))) (dCallF 9 2 (dCons (dVar 0) (dCons (dC (.int 14)) dNil)))))
    (sSeq (sIf (dBl (dOp eqD (dVar 4) (dC (.int 0)))) (sRet (dOp addD (dOp addD (dSl (dVar 2) none (some (dVar 5))) (dTup (dCons (dVar 10) dNil))) (dSl (dVar 2) (some (dOp addD (dVar 5) (dC (.int 1)))) none))) sNil)
    (sSeq (sIf (dBl (dOp eqD (dVar 4) (dC (.int 1)))) (sRet (dOp addD (dOp addD (dSl (dVar 2) none (some (dVar 5))) (dTup (dCons (dVar 10) dNil))) (dSl (dVar 2) (some (dVar 5)) none))) sNil)
    (sSeq (sIf (dBl (dOp eqD (dVar 4) (dC (.int 2)))) (sSeq (sAsg (.nm 11) (dCallF 9 2 (dCons (dVar 0) (dCons (dOp addD (dCl lenD (dCons (dVar 2) dNil)) (dC (.int 1))) dNil))))
    (sSeq (sAsg (.nm 12) (dOp ixD (dLst (dCons (dTup (dCons (dVar 6) (dCons (dVar 7) dNil))) (dCons (dTup (dCons (dVar 7) (dCons (dVar 6) dNil))) dNil))) (dCallF 9 2 (dCons (dVar 0) (dCons (dC (.int 2)) dNil)))))
    (sRet (dOp addD (dOp addD (dSl (dVar 2) none (some (dVar 11))) (dTup (dCons (dVar 12) dNil))) (dSl (dVar 2) (some (dVar 11)) none))))) sNil)
    (sSeq (sIf (dBl (dOp eqD (dVar 4) (dC (.int 3)))) (sRet (dOp addD (dSl (dVar 2) (some (dVar 5)) none) (dSl (dVar 2) none (some (dVar 5))))) sNil)
    (sSeq (sIf (dBl (dOp eqD (dVar 4) (dC (.int 4)))) (sRet (dOp addD (dCl tupleD (dCons (dLc (iVal (dSl (dVar 2) none (some (dVar 5)))) (.nm 12) tYesD (dUn revD (dVar 12)) [12]) dNil)) (dSl (dVar 2) (some (dVar 5)) none))) sNil)
    (sSeq (sIf (dBl (dOp eqD (dVar 4) (dC (.int 5)))) (sRet (dOp ixD (dLst (dCons (dC .non) (dCons (dC (.bl true)) (dCons (dC (.int 0)) (dCons (dC (.str "web")) (dCons dDk0 (dCons (dDn1 (dTup (dCons (dC (.int 0)) (dCons (dC (.int 1)) dNil))) (dC (.bl true))) (dCons (dCallF 14 1 (dCons (dVar 0) dNil)) (dCons (dTup (dCons (dTup dNil) dNil)) dNil))))))))) (dCallF 9 2 (dCons (dVar 0) (dCons (dC (.int 8)) dNil))))) sNil)
    (sSeq (sIf (dBl (dOp eqD (dVar 4) (dC (.int 6)))) (sRet (dOp addD (dUn revD (dVar 2)) (dSl (dOp addD (dOp ixD (dVar 1) (dC (.int 1))) (dTup (dCons (dTup (dCons (dC (.int 0)) (dCons (dC (.int 1)) dNil))) dNil))) none (some (dC (.int 1)))))) sNil)
    (sRet (dVar 2))))))))))))))))
/-- _law_right -/
noncomputable def dn_16 : DenS := (sSeq (sIf (dAndT (dTru (dIsi .tup (dVar 2))) (dBl (dOp eqD (dCallF 9 2 (dCons (dVar 0) (dCons (dC (.int 2)) dNil))) (dC (.int 0))))) (sAsg (.nm 2) (dCl listD (dCons (dVar 2) dNil))) sNil)
    (sSeq (sAsg (.nm 3) (dCallF 12 2 (dCons (dVar 1) (dCons (dVar 2) dNil))))
    (sSeq (sAsg (.nm 4) (dCl reprF (dCons (dLst (dCons (dVar 1) (dCons (dVar 2) dNil))) dNil)))
    (sSeq (sAsg (.nm 5) (dCallF 6 2 (dCons (dVar 1) (dCons (dVar 2) dNil))))
    (sSeq (sAsg (.nm 6) (dAndV (dIsi .tup (dVar 2)) (dAndV (dOp isnD (dVar 3) (dC .non)) (dOp eqD (dCl listD (dCons (dVar 2) dNil)) (dCl sortedD (dCons (dVar 3) dNil))))))
    (sSeq (sIf (dOrT (dNotT (dTru (dIsi .bl (dVar 5)))) (dBl (dOp neD (dVar 5) (dVar 6)))) (sRet (dC (.bl false))) sNil)
    (sSeq (sAsg (.tp [7, 8]) (dCallF 13 3 (dCons (dVar 1) (dCons (dVar 2) (dCons (dOp eqD (dCallF 9 2 (dCons (dVar 0) (dCons (dC (.int 2)) dNil))) (dC (.int 0))) dNil)))))
    (sSeq (sIf (dBl (dOp neD (dCl reprF (dCons (dLst (dCons (dVar 1) (dCons (dVar 2) dNil))) dNil)) (dVar 4))) (sRet (dC (.bl false))) sNil)
    (sSeq (sIf (dBl (dOp isND (dVar 3) (dC .non))) (sRet (dOp eqD (dVar 7) (dC (.str "refused")))) sNil)
    (sSeq (sIf (dTru (dIsi .lst (dVar 2))) (sExpr (dMt appendD (dVar 2) (dCons (dTup (dCons (dC (.int 0)) (dCons (dC (.int 0)) dNil))) dNil))) sNil)
    (sSeq (sIf (dOrT (dBl (dOp neD (dVar 7) (dC (.str "made")))) (dOrT (dNotT (dTru (dIsi .tup (dVar 8)))) (dBl (dOp neD (dVar 8) (dCl tupleD (dCons (dCl sortedD (dCons (dVar 3) dNil)) dNil)))))) (sRet (dC (.bl false))) sNil)
    (sRet (dOp isND (dCallF 6 2 (dCons (dVar 1) (dCons (dVar 8) dNil))) (dC (.bl true)))))))))))))))
/-- law -/
noncomputable def dn_17 : DenS := (sSeq (sFor (iRange1 (dCons (dC (.int 4)) dNil)) (.nm 1) (sSeq (sAsg (.nm 2) (dCallF 8 2 (dCons (dVar 0) (dCons (dVar 1) dNil))))
    (sSeq (sAsg (.nm 3) (dCallF 10 1 (dCons (dVar 2) dNil)))
    (sSeq (sAsg (.nm 4) (dCl tupleD (dCons (dLc (iVal (dOp ixD (dVar 3) (dC (.int 1)))) (.nm 6) (dBl (dOp gtD (dCallF 9 2 (dCons (dVar 2) (dCons (dC (.int 3)) dNil))) (dC (.int 0)))) (dVar 6) [6]) dNil)))
    (sFor (iRange1 (dCons (dC (.int 4)) dNil)) (.nm 5) (sIf (dOrT (dNotT (dTru (dCallF 16 3 (dCons (dVar 2) (dCons (dVar 3) (dCons (dCallF 15 3 (dCons (dVar 2) (dCons (dVar 3) (dCons (dVar 4) dNil)))) dNil)))))) (dNotT (dTru (dCallF 16 3 (dCons (dVar 2) (dCons (dVar 3) (dCons (dVar 4) dNil))))))) (sRet (dC (.bl false))) sNil))))))
    (sRet (dC (.bl true))))
noncomputable def bodies : Bodies := [(dn_0, 1), (dn_1, 2), (dn_2, 2), (dn_3, 2), (dn_4, 3), (dn_5, 2), (dn_6, 3), (dn_7, 3), (dn_8, 4), (dn_9, 4), (dn_10, 7), (dn_11, 1), (dn_12, 5), (dn_13, 6), (dn_14, 3), (dn_15, 13), (dn_16, 9), (dn_17, 7)]
def top (i : Nat) : Stmt := PySem.Challenge.pw_allasked_k04_webs_made_or_none.main.body.getD i (.Pass ⟨0, 0, 0, 0⟩)
abbrev Fs (ff : Nat → Addr) (fd : Nat → FuncData) : List FnE := [⟨"is_whole", ff 0, fd 0, ["thing"]⟩, ⟨"is_place", ff 1, fd 1, ["many", "thing"]⟩, ⟨"is_pair", ff 2, fd 2, ["many", "thing"]⟩, ⟨"is_rising", ff 3, fd 3, ["ties"]⟩, ⟨"sorted_ties", ff 4, fd 4, ["many", "things"]⟩, ⟨"is_tie", ff 5, fd 5, ["frame", "thing"]⟩, ⟨"is_web", ff 6, fd 6, ["frame", "thing"]⟩, ⟨"web_of", ff 7, fd 7, ["frame", "ties"]⟩, ⟨"_law_pen", ff 8, fd 8, ["_law_script", "_law_k"]⟩, ⟨"_law_take", ff 9, fd 9, ["_law_pen_here", "_law_many"]⟩, ⟨"_law_frame", ff 10, fd 10, ["_law_pen_here"]⟩, ⟨"_law_whole", ff 11, fd 11, ["_law_thing"]⟩, ⟨"_law_ties", ff 12, fd 12, ["_law_frame_here", "_law_thing"]⟩, ⟨"_law_told", ff 13, fd 13, ["_law_frame_here", "_law_thing", "_law_base"]⟩, ⟨"_law_deep", ff 14, fd 14, ["_law_pen_here"]⟩, ⟨"_law_spoilt", ff 15, fd 15, ["_law_pen_here", "_law_frame_here", "_law_web"]⟩, ⟨"_law_right", ff 16, fd 16, ["_law_pen_here", "_law_frame_here", "_law_thing"]⟩, ⟨"law", ff 17, fd 17, ["_law_script"]⟩]
abbrev Tabs (tP : Nat → Addr) : List Tb := [(tP 3, none), (tP 4, none), (tP 6, none)]
structure Fa (K : PySem.W.Frag) (mg : Str → Option Value) (base : Heap) (ff : Nat → Addr) (fd : Nat → FuncData) (cc tP xc : Nat → Addr) : Prop where
  b_ValueError : mg "ValueError" = none
  b_abs : mg "abs" = none
  b_all : mg "all" = none
  b_bool : mg "bool" = none
  b_int : mg "int" = none
  b_isinstance : mg "isinstance" = none
  b_len : mg "len" = none
  b_list : mg "list" = none
  b_max : mg "max" = none
  b_min : mg "min" = none
  b_range : mg "range" = none
  b_repr : mg "repr" = none
  b_sorted : mg "sorted" = none
  b_tuple : mg "tuple" = none
  T : FnsOk K mg (Fs ff fd)
  tb_3 : LamX.TabB base mg (cc 3) (tP 3)
  tm_3 : (tP 3, none) ∈ Tabs tP
  tb_4 : LamX.TabB base mg (cc 4) (tP 4)
  tm_4 : (tP 4, none) ∈ Tabs tP
  tb_6 : LamX.TabB base mg (cc 6) (tP 6)
  tm_6 : (tP 6, none) ∈ Tabs tP
  x_0 : Dv.ExcC K mg "NoWeb" (xc 0)
  x_1 : Dv.ExcC K mg "AskError" (xc 1)
  x_2 : Dv.ExcC K mg "NoBack" (xc 2)
  x_3 : Dv.ExcC K mg "NoFrame" (xc 3)
  x_4 : Dv.ExcC K mg "NoGrowth" (xc 4)
  x_5 : Dv.ExcC K mg "NoRow" (xc 5)
  x_6 : Dv.ExcC K mg "NoText" (xc 6)
  x_7 : Dv.ExcC K mg "NoTie" (xc 7)
  x_8 : Dv.ExcC K mg "NoTruth" (xc 8)
  x_9 : Dv.ExcC K mg "NoTurn" (xc 9)
  t_0 : ∀ i, PySem.W.exmOne K (gx xc i) (.ref (xc 0)) = some (xq 0 i)
  t_1 : ∀ i, PySem.W.exmOne K (gx xc i) (.ref (xc 1)) = some (xq 1 i)
  nx : ∀ c, c < 1 → PySem.W.nsIn K mainGlobals (xnm c) = some (some (.ref (xc c))) ∧ Gn.ExcD K (xc c)
  kiA : ∀ i ∈ KIS, ∀ j, j < 1 → PySem.W.kitOne K (.ref (xc j)) (.ref (xc i)) = some (xq i j)
  kve : ∀ j, j < 1 → PySem.W.kitOne K (.ref (xc j)) (.type "ValueError") = some true
  sm : Gr.SysB base
section
variable {P : Program} {w : World} {K : PySem.W.Frag} {mg : Str → Option Value} {base : Heap} {ff : Nat → Addr} {fd : Nat → FuncData} {cc tP xc : Nat → Addr}
abbrev nm_0 : List Str := ["thing"]
theorem nd_0 : nm_0.Nodup := by decide +kernel
abbrev st_0 : Stmt := top 12
theorem sc_0 : FnScope nm_0 ["thing"] (defScope st_0) := ⟨rfl, rfl, rfl, nd_0, rfl, by decide +kernel, by decide +kernel⟩
theorem bd_0 (F : Fa K mg base ff fd cc tP xc) {k : Nat} {lv : Lv} (L : LvOk P w K mg base (L2.CX P w) ⟨K, Tabs tP⟩ (some (gx xc)) (Fs ff fd) (k + 1) lv) {f : Addr} {cdv : Value} {A : Around} {outer : List PySem.Env} {s : Shared} {H : Hp} {E : XK}
    (hr : Gr.RoomG (k + 1) (A.deeper (envOfC "is_whole" (defScope st_0) s.heap.objs.size f cdv))) : PSs (cxOf (L2.CX P w) P w K mg base nm_0 "is_whole" (defScope st_0) f cdv A outer s H E) (defBody st_0) (semS ⟨K, Tabs tP⟩ (exE (gx xc) (wD_ E)) lv dn_0) :=
  (sd_one (sd_ret (pd_andV (xisi .int bt_int F.b_isinstance F.b_int (xv 0 (.inl rfl))) (pe_one (pd_not (xisi .bl bt_bool F.b_isinstance F.b_bool (xv 0 (.inl rfl))))))))
abbrev nm_1 : List Str := ["many", "thing"]
theorem nd_1 : nm_1.Nodup := by decide +kernel
abbrev st_1 : Stmt := top 13
theorem sc_1 : FnScope nm_1 ["many", "thing"] (defScope st_1) := ⟨rfl, rfl, rfl, nd_1, rfl, by decide +kernel, by decide +kernel⟩
theorem bd_1 (F : Fa K mg base ff fd cc tP xc) {k : Nat} {lv : Lv} (L : LvOk P w K mg base (L2.CX P w) ⟨K, Tabs tP⟩ (some (gx xc)) (Fs ff fd) (k + 1) lv) {f : Addr} {cdv : Value} {A : Around} {outer : List PySem.Env} {s : Shared} {H : Hp} {E : XK}
    (hr : Gr.RoomG (k + 1) (A.deeper (envOfC "is_place" (defScope st_1) s.heap.objs.size f cdv))) : PSs (cxOf (L2.CX P w) P w K mg base nm_1 "is_place" (defScope st_1) f cdv A outer s H E) (defBody st_1) (semS ⟨K, Tabs tP⟩ (exE (gx xc) (wD_ E)) lv dn_1) :=
  (sd_one (sd_ret (pd_andV (xcall 0 L F.T hr (pass_E tk_of) (fun h => nomatch h) rfl rfl rfl (xcons (xv 1 (.inl rfl)) pd_nil)) (pe_one (xchain xint (kd_link (opd_le) (xv 1 (.inl rfl)) (kd_last (opd_lt hr.units0) (xv 0 (.inl rfl)))))))))
abbrev nm_2 : List Str := ["many", "thing"]
theorem nd_2 : nm_2.Nodup := by decide +kernel
abbrev st_2 : Stmt := top 14
theorem sc_2 : FnScope nm_2 ["many", "thing"] (defScope st_2) := ⟨rfl, rfl, rfl, nd_2, rfl, by decide +kernel, by decide +kernel⟩
theorem bd_2 (F : Fa K mg base ff fd cc tP xc) {k : Nat} {lv : Lv} (L : LvOk P w K mg base (L2.CX P w) ⟨K, Tabs tP⟩ (some (gx xc)) (Fs ff fd) (k + 1) lv) {f : Addr} {cdv : Value} {A : Around} {outer : List PySem.Env} {s : Shared} {H : Hp} {E : XK}
    (hr : Gr.RoomG (k + 1) (A.deeper (envOfC "is_pair" (defScope st_2) s.heap.objs.size f cdv))) : PSs (cxOf (L2.CX P w) P w K mg base nm_2 "is_pair" (defScope st_2) f cdv A outer s H E) (defBody st_2) (semS ⟨K, Tabs tP⟩ (exE (gx xc) (wD_ E)) lv dn_2) :=
  (sd_cons (sd_if (PW.pt (td_or (td_not (ytru (xisi .tup bt_tuple F.b_isinstance F.b_tuple (xv 1 (.inl rfl))))) (td_or1 (ycmp (opd_ne hr.units) (xlen F.b_len (xcons (xv 1 (.inl rfl)) pd_nil)) xint)))) (sd_one (sd_ret xbl)) sd_nil)
    (sd_one (sd_ret (pd_andV (xcall 1 L F.T hr (pass_E tk_of) (fun h => nomatch h) rfl rfl rfl (xcons (xv 0 (.inl rfl)) (xcons (xix (xv 1 (.inl rfl)) xint) pd_nil))) (pd_andV (xcall 1 L F.T hr (pass_E tk_of) (fun h => nomatch h) rfl rfl rfl (xcons (xv 0 (.inl rfl)) (xcons (xix (xv 1 (.inl rfl)) xint) pd_nil))) (pe_one (xcmp (opd_ne hr.units) (xix (xv 1 (.inl rfl)) xint) (xix (xv 1 (.inl rfl)) xint))))))))
abbrev nm_3 : List Str := ["ties", "at"]
theorem nd_3 : nm_3.Nodup := by decide +kernel
abbrev st_3 : Stmt := top 15
theorem sc_3 : FnScope nm_3 ["ties"] (defScope st_3) := ⟨rfl, rfl, rfl, nd_3, rfl, by decide +kernel, by decide +kernel⟩
theorem bd_3 (F : Fa K mg base ff fd cc tP xc) {k : Nat} {lv : Lv} (L : LvOk P w K mg base (L2.CX P w) ⟨K, Tabs tP⟩ (some (gx xc)) (Fs ff fd) (k + 1) lv) {f : Addr} {A : Around} {outer : List PySem.Env} {s : Shared} {H : Hp} {E : XK}
    (hr : Gr.RoomG (k + 1) (A.deeper (envOfC "is_rising" (defScope st_3) s.heap.objs.size f (.ref (cc 3))))) : PSs (cxOf (L2.CX P w) P w K mg base nm_3 "is_rising" (defScope st_3) f (.ref (cc 3)) A outer s H E) (defBody st_3) (semS ⟨K, Tabs tP⟩ (exE (gx xc) (wD_ E)) lv dn_3) :=
  (sd_one (sd_ret (pd_all (own := [("at", 1)]) F.tm_3 (by decide) hr rfl F.b_all nd_3 F.tb_3 rfl (show Gx.GScp nm_3 (defScope st_3) _ [("at", 1)] from ⟨(show BlkOk nm_3 (defScope st_3) _ [("at", 1)] from ⟨rfl, by decide +kernel, by decide +kernel, by decide +kernel, by decide +kernel⟩), rfl, by decide +kernel, rfl⟩) (irng1 F.b_range (xcons (pd_op opd_sub (xlen F.b_len (xcons (xv 0 (.inr (.inl rfl))) pd_nil)) xint) pd_nil)) ⟨fun _ _ _ _ _ _ _ _ hr2 => (gname 1 nd_3 (.inl rfl) (.inr rfl)), fun _ _ _ _ _ _ _ _ hr2 => ptsYes, fun _ _ _ _ _ _ _ _ hr2 => (xcmp (opd_lt hr2.units0) (xix (xv 0 (.inr (.inr rfl))) (xv 1 (.inl rfl))) (xix (xv 0 (.inr (.inr rfl))) (pd_op opd_add (xv 1 (.inl rfl)) xint)))⟩ (fun _ => rfl))))
abbrev nm_4 : List Str := ["many", "things", "pair"]
theorem nd_4 : nm_4.Nodup := by decide +kernel
abbrev st_4 : Stmt := top 16
theorem sc_4 : FnScope nm_4 ["many", "things"] (defScope st_4) := ⟨rfl, rfl, rfl, nd_4, rfl, by decide +kernel, by decide +kernel⟩
theorem bd_4 (F : Fa K mg base ff fd cc tP xc) {k : Nat} {lv : Lv} (L : LvOk P w K mg base (L2.CX P w) ⟨K, Tabs tP⟩ (some (gx xc)) (Fs ff fd) (k + 1) lv) {f : Addr} {A : Around} {outer : List PySem.Env} {s : Shared} {H : Hp} {E : XK}
    (hr : Gr.RoomG (k + 1) (A.deeper (envOfC "sorted_ties" (defScope st_4) s.heap.objs.size f (.ref (cc 4))))) : PSs (cxOf (L2.CX P w) P w K mg base nm_4 "sorted_ties" (defScope st_4) f (.ref (cc 4)) A outer s H E) (defBody st_4) (semS ⟨K, Tabs tP⟩ (exE (gx xc) (wD_ E)) lv dn_4) :=
  (sd_cons (sd_if (td_not (ytru (xisi2 .lst .tup bt_list bt_tuple F.b_isinstance F.b_list F.b_tuple (xv 1 (.inl rfl))))) (sd_one (sd_ret xnon)) sd_nil)
    (sd_cons (sd_if (td_not (ytru (pd_all (own := [("pair", 2)]) F.tm_4 (by decide) hr rfl F.b_all nd_4 F.tb_4 rfl (show Gx.GScp nm_4 (defScope st_4) _ [("pair", 2)] from ⟨(show BlkOk nm_4 (defScope st_4) _ [("pair", 2)] from ⟨rfl, by decide +kernel, by decide +kernel, by decide +kernel, by decide +kernel⟩), rfl, by decide +kernel, rfl⟩) (id_val (xv 1 (.inl rfl))) ⟨fun _ _ _ _ _ _ _ _ hr2 => (gname 2 nd_4 (.inl rfl) (.inr rfl)), fun _ _ _ _ _ _ _ _ hr2 => ptsYes, fun _ _ _ _ _ _ _ _ hr2 => (xcall 2 L.dn F.T hr2 pass_noE (fun h => nomatch h) rfl rfl rfl (xcons (xv 0 (.inr (.inr rfl))) (xcons (xv 2 (.inl rfl)) pd_nil)))⟩ (fun _ => rfl)))) (sd_one (sd_ret xnon)) sd_nil)
    (sd_one (sd_ret (xtuple F.b_tuple (xcons (pd_sortedG (own := [("pair", 2)]) F.tm_4 (by decide) hr rfl F.b_sorted nd_4 F.tb_4 rfl (show Gx.GScp nm_4 (defScope st_4) _ [("pair", 2)] from ⟨(show BlkOk nm_4 (defScope st_4) _ [("pair", 2)] from ⟨rfl, by decide +kernel, by decide +kernel, by decide +kernel, by decide +kernel⟩), rfl, by decide +kernel, rfl⟩) (id_val (xv 1 (.inl rfl))) ⟨fun _ _ _ _ _ _ _ _ hr2 => (gname 2 nd_4 (.inl rfl) (.inr rfl)), fun _ _ _ _ _ _ _ _ hr2 => ptsYes, fun _ _ _ _ _ _ _ _ hr2 => (pd_tup (xcons (xmin1 hr2.units F.b_min (xcons (xv 2 (.inl rfl)) pd_nil)) (xcons (xmax1 hr2.units F.b_max (xcons (xv 2 (.inl rfl)) pd_nil)) pd_nil)))⟩ (fun _ => rfl)) pd_nil))))))
abbrev nm_5 : List Str := ["frame", "thing"]
theorem nd_5 : nm_5.Nodup := by decide +kernel
abbrev st_5 : Stmt := top 17
theorem sc_5 : FnScope nm_5 ["frame", "thing"] (defScope st_5) := ⟨rfl, rfl, rfl, nd_5, rfl, by decide +kernel, by decide +kernel⟩
theorem bd_5 (F : Fa K mg base ff fd cc tP xc) {k : Nat} {lv : Lv} (L : LvOk P w K mg base (L2.CX P w) ⟨K, Tabs tP⟩ (some (gx xc)) (Fs ff fd) (k + 1) lv) {f : Addr} {cdv : Value} {A : Around} {outer : List PySem.Env} {s : Shared} {H : Hp} {E : XK}
    (hr : Gr.RoomG (k + 1) (A.deeper (envOfC "is_tie" (defScope st_5) s.heap.objs.size f cdv))) : PSs (cxOf (L2.CX P w) P w K mg base nm_5 "is_tie" (defScope st_5) f cdv A outer s H E) (defBody st_5) (semS ⟨K, Tabs tP⟩ (exE (gx xc) (wD_ E)) lv dn_5) :=
  (sd_one (sd_ret (pd_andV (xcall 2 L F.T hr (pass_E tk_of) (fun h => nomatch h) rfl rfl rfl (xcons (xix (xv 0 (.inl rfl)) xint) (xcons (xv 1 (.inl rfl)) pd_nil))) (pe_one (xcmpI (opd_in (units66 hr)) (xv 1 (.inl rfl)) (xix (xv 0 (.inl rfl)) xint))))))
abbrev nm_6 : List Str := ["frame", "thing", "tie"]
theorem nd_6 : nm_6.Nodup := by decide +kernel
abbrev st_6 : Stmt := top 18
theorem sc_6 : FnScope nm_6 ["frame", "thing"] (defScope st_6) := ⟨rfl, rfl, rfl, nd_6, rfl, by decide +kernel, by decide +kernel⟩
theorem bd_6 (F : Fa K mg base ff fd cc tP xc) {k : Nat} {lv : Lv} (L : LvOk P w K mg base (L2.CX P w) ⟨K, Tabs tP⟩ (some (gx xc)) (Fs ff fd) (k + 1) lv) {f : Addr} {A : Around} {outer : List PySem.Env} {s : Shared} {H : Hp} {E : XK}
    (hr : Gr.RoomG (k + 1) (A.deeper (envOfC "is_web" (defScope st_6) s.heap.objs.size f (.ref (cc 6))))) : PSs (cxOf (L2.CX P w) P w K mg base nm_6 "is_web" (defScope st_6) f (.ref (cc 6)) A outer s H E) (defBody st_6) (semS ⟨K, Tabs tP⟩ (exE (gx xc) (wD_ E)) lv dn_6) :=
  (sd_cons (sd_if (td_not (ytru (xisi .tup bt_tuple F.b_isinstance F.b_tuple (xv 1 (.inl rfl))))) (sd_one (sd_ret xbl)) sd_nil)
    (sd_one (sd_ret (pd_andV (pd_all (own := [("tie", 2)]) F.tm_6 (by decide) hr rfl F.b_all nd_6 F.tb_6 rfl (show Gx.GScp nm_6 (defScope st_6) _ [("tie", 2)] from ⟨(show BlkOk nm_6 (defScope st_6) _ [("tie", 2)] from ⟨rfl, by decide +kernel, by decide +kernel, by decide +kernel, by decide +kernel⟩), rfl, by decide +kernel, rfl⟩) (id_val (xv 1 (.inl rfl))) ⟨fun _ _ _ _ _ _ _ _ hr2 => (gname 2 nd_6 (.inl rfl) (.inr rfl)), fun _ _ _ _ _ _ _ _ hr2 => ptsYes, fun _ _ _ _ _ _ _ _ hr2 => (xcall 5 L.dn F.T hr2 pass_noE (fun h => nomatch h) rfl rfl rfl (xcons (xv 0 (.inr (.inr rfl))) (xcons (xv 2 (.inl rfl)) pd_nil)))⟩ (fun _ => rfl)) (pe_one (xcall 3 L F.T hr (pass_E tk_of) (fun h => nomatch h) rfl rfl rfl (xcons (xv 1 (.inl rfl)) pd_nil)))))))
abbrev nm_7 : List Str := ["frame", "ties", "made"]
theorem nd_7 : nm_7.Nodup := by decide +kernel
abbrev st_7 : Stmt := top 19
theorem sc_7 : FnScope nm_7 ["frame", "ties"] (defScope st_7) := ⟨rfl, rfl, rfl, nd_7, rfl, by decide +kernel, by decide +kernel⟩
theorem bd_7 (F : Fa K mg base ff fd cc tP xc) {k : Nat} {lv : Lv} (L : LvOk P w K mg base (L2.CX P w) ⟨K, Tabs tP⟩ (some (gx xc)) (Fs ff fd) (k + 1) lv) {f : Addr} {cdv : Value} {A : Around} {outer : List PySem.Env} {s : Shared} {H : Hp} {E : XK}
    (hr : Gr.RoomG (k + 1) (A.deeper (envOfC "web_of" (defScope st_7) s.heap.objs.size f cdv))) : PSs (cxOf (L2.CX P w) P w K mg base nm_7 "web_of" (defScope st_7) f cdv A outer s H E) (defBody st_7) (semS ⟨K, Tabs tP⟩ (exE (gx xc) (wD_ E)) lv dn_7) :=
  (sd_cons (zasg (xcall 4 L F.T hr (pass_E tk_of) (fun h => nomatch h) rfl rfl rfl (xcons (xix (xv 0 (.inl rfl)) xint) (xcons (xv 1 (.inl rfl)) pd_nil))) (gname 2 nd_7 (.inl rfl) (.inl rfl)))
    (sd_cons (sd_if (td_not (ytru (xcall 6 L F.T hr (pass_E tk_of) (fun h => nomatch h) rfl rfl rfl (xcons (xv 0 (.inl rfl)) (xcons (xv 2 (.inl rfl)) pd_nil))))) (sd_one (zraise 0 F.x_0 tk_of)) sd_nil)
    (sd_one (sd_ret (xv 2 (.inl rfl))))))
abbrev nm_8 : List Str := ["_law_script", "_law_k", "_law_cell", "_law_far"]
theorem nd_8 : nm_8.Nodup := by decide +kernel
abbrev st_8 : Stmt := top 21
theorem sc_8 : FnScope nm_8 ["_law_script", "_law_k"] (defScope st_8) := ⟨rfl, rfl, rfl, nd_8, rfl, by decide +kernel, by decide +kernel⟩
theorem bd_8 (F : Fa K mg base ff fd cc tP xc) {k : Nat} {lv : Lv} (L : LvOk P w K mg base (L2.CX P w) ⟨K, Tabs tP⟩ (some (gx xc)) (Fs ff fd) (k + 1) lv) {f : Addr} {cdv : Value} {A : Around} {outer : List PySem.Env} {s : Shared} {H : Hp} {E : XK}
    (hr : Gr.RoomG (k + 1) (A.deeper (envOfC "_law_pen" (defScope st_8) s.heap.objs.size f cdv))) : PSs (cxOf (L2.CX P w) P w K mg base nm_8 "_law_pen" (defScope st_8) f cdv A outer s H E) (defBody st_8) (semS ⟨K, Tabs tP⟩ (exE (gx xc) (wD_ E)) lv dn_8) :=
  (sd_cons (zasg (pd_op opd_add (pd_op opd_mul xint (xv 1 (.inl rfl))) xint) (gname 2 nd_8 (.inl rfl) (.inl rfl)))
    (sd_cons (sd_if (ycmp (opd_gt) (xlen F.b_len (xcons (xv 0 (.inl rfl)) pd_nil)) xint) (sd_one (zasg (pd_op opd_add (xix (xv 0 (.inl rfl)) (pd_op opd_mod (xv 1 (.inl rfl)) (xlen F.b_len (xcons (xv 0 (.inl rfl)) pd_nil)))) (pd_op opd_mul xint (pd_op opd_fdiv (xv 1 (.inl rfl)) (xlen F.b_len (xcons (xv 0 (.inl rfl)) pd_nil))))) (gname 2 nd_8 (.inl rfl) (.inl rfl)))) sd_nil)
    (sd_cons (zasg xint (gname 3 nd_8 (.inl rfl) (.inl rfl)))
    (sd_cons (sd_if (ycmp (opd_ge) (xabs F.b_abs (xcons (xv 2 (.inl rfl)) pd_nil)) (pd_op opd_pow xint xint)) (sd_one (zasg (xabs F.b_abs (xcons (xv 2 (.inl rfl)) pd_nil)) (gname 3 nd_8 (.inl rfl) (.inl rfl)))) sd_nil)
    (sd_one (sd_ret (pd_lst (xcons (xv 3 (.inl rfl)) (xcons (pd_op opd_mod (pd_op opd_add (pd_op opd_add (pd_op opd_mul (pd_op opd_mod (xv 2 (.inl rfl)) xint) xint) (pd_op opd_mul xint (xv 1 (.inl rfl)))) xint) xint) pd_nil)))))))))
abbrev nm_9 : List Str := ["_law_pen_here", "_law_many", "_law_digit", "_law_one"]
theorem nd_9 : nm_9.Nodup := by decide +kernel
abbrev st_9 : Stmt := top 22
theorem sc_9 : FnScope nm_9 ["_law_pen_here", "_law_many"] (defScope st_9) := ⟨rfl, rfl, rfl, nd_9, rfl, by decide +kernel, by decide +kernel⟩
theorem bd_9 (F : Fa K mg base ff fd cc tP xc) {k : Nat} {lv : Lv} (L : LvOk P w K mg base (L2.CX P w) ⟨K, Tabs tP⟩ (some (gx xc)) (Fs ff fd) (k + 1) lv) {f : Addr} {cdv : Value} {A : Around} {outer : List PySem.Env} {s : Shared} {H : Hp} {E : XK}
    (hr : Gr.RoomG (k + 1) (A.deeper (envOfC "_law_take" (defScope st_9) s.heap.objs.size f cdv))) : PSs (cxOf (L2.CX P w) P w K mg base nm_9 "_law_take" (defScope st_9) f cdv A outer s H E) (defBody st_9) (semS ⟨K, Tabs tP⟩ (exE (gx xc) (wD_ E)) lv dn_9) :=
  (sd_cons (sd_if (ycmp (opd_gt) (xix (xv 0 (.inl rfl)) xint) xint) (sd_cons (zasg (pd_op opd_mod (xix (xv 0 (.inl rfl)) xint) (xv 1 (.inl rfl))) (gname 2 nd_9 (.inl rfl) (.inl rfl)))
    (sd_cons (zsub (xv 0 (.inl rfl)) xint (pd_op opd_fdiv (xix (xv 0 (.inl rfl)) xint) (xv 1 (.inl rfl))))
    (sd_one (sd_ret (xv 2 (.inl rfl)))))) sd_nil)
    (sd_cons (zasg (pd_op opd_mod (pd_op opd_add (pd_op opd_mul (xix (xv 0 (.inl rfl)) xint) xint) xint) xint) (gname 3 nd_9 (.inl rfl) (.inl rfl)))
    (sd_cons (zsub (xv 0 (.inl rfl)) xint (xv 3 (.inl rfl)))
    (sd_one (sd_ret (pd_op opd_mod (pd_op opd_fdiv (pd_op opd_mod (pd_op opd_add (pd_op opd_mul (xv 3 (.inl rfl)) (pd_op opd_add (pd_op opd_mod (xv 3 (.inl rfl)) xint) xint)) (pd_op opd_fdiv (xv 3 (.inl rfl)) xint)) xint) xint) (xv 1 (.inl rfl))))))))
abbrev nm_10 : List Str := ["_law_pen_here", "_law_many", "_law_left", "_law_other", "_law_ties_here", "_law_k", "_law_one"]
theorem nd_10 : nm_10.Nodup := by decide +kernel
abbrev st_10 : Stmt := top 23
theorem sc_10 : FnScope nm_10 ["_law_pen_here"] (defScope st_10) := ⟨rfl, rfl, rfl, nd_10, rfl, by decide +kernel, by decide +kernel⟩
theorem bd_10 (F : Fa K mg base ff fd cc tP xc) {k : Nat} {lv : Lv} (L : LvOk P w K mg base (L2.CX P w) ⟨K, Tabs tP⟩ (some (gx xc)) (Fs ff fd) (k + 1) lv) {f : Addr} {cdv : Value} {A : Around} {outer : List PySem.Env} {s : Shared} {H : Hp} {E : XK}
    (hr : Gr.RoomG (k + 1) (A.deeper (envOfC "_law_frame" (defScope st_10) s.heap.objs.size f cdv))) : PSs (cxOf (L2.CX P w) P w K mg base nm_10 "_law_frame" (defScope st_10) f cdv A outer s H E) (defBody st_10) (semS ⟨K, Tabs tP⟩ (exE (gx xc) (wD_ E)) lv dn_10) :=
  (sd_cons (zasg (pd_op opd_add xint (xcall 9 L F.T hr (pass_E tk_of) (fun h => nomatch h) rfl rfl rfl (xcons (xv 0 (.inl rfl)) (xcons xint pd_nil)))) (gname 1 nd_10 (.inl rfl) (.inl rfl)))
    (sd_cons (zasg (pd_lst pd_nil) (gname 2 nd_10 (.inl rfl) (.inl rfl)))
    (sd_cons (zfor (passes_of rfl) (irng1 F.b_range (xcons (xv 1 (.inl rfl)) pd_nil)) (gname 3 nd_10 (.inr rfl) (.inl rfl)) (sd_one (zasg (pd_op opd_add (xv 2 (.inl rfl)) (xlc [("_law_one", 6)] nd_10 (irng1 F.b_range (xcons (xv 3 (.inr (.inl rfl))) pd_nil)) (show BlkOk nm_10 (defScope st_10) _ [("_law_one", 6)] from ⟨rfl, by decide +kernel, by decide +kernel, by decide +kernel, by decide +kernel⟩) ⟨fun _ _ _ _ _ => (gname 6 nd_10 (.inl rfl) (.inr rfl)), fun _ _ _ _ _ => ptsYes, fun _ _ _ _ _ => (pd_tup (xcons (xv 6 (.inl rfl)) (xcons (xv 3 (.inr (.inl rfl))) pd_nil)))⟩)) (gname 2 nd_10 (.inl rfl) (.inl rfl)))))
    (sd_cons (zasg (pd_lst pd_nil) (gname 4 nd_10 (.inl rfl) (.inl rfl)))
    (sd_cons (zfor (passes_of rfl) (irng1 F.b_range (xcons (xmin F.b_min (xcons (xcall 9 L F.T hr (pass_E tk_of) (fun h => nomatch h) rfl rfl rfl (xcons (xv 0 (.inl rfl)) (xcons xint pd_nil))) (xcons (xlen F.b_len (xcons (xv 2 (.inl rfl)) pd_nil)) pd_nil))) pd_nil)) (gname 5 nd_10 (.inl rfl) (.inl rfl)) (sd_one (zexpr (st := sNil) (xmt PySem.F.slot_list_append PySem.F.type_list_append mtd_append (xv 4 (.inl rfl)) (xcons (xmt PySem.F.slot_list_pop PySem.F.type_list_pop mtd_pop (xv 2 (.inl rfl)) (xcons (xcall 9 L F.T hr (pass_E tk_of) (fun h => nomatch h) rfl rfl rfl (xcons (xv 0 (.inl rfl)) (xcons (xlen F.b_len (xcons (xv 2 (.inl rfl)) pd_nil)) pd_nil))) pd_nil)) pd_nil)))))
    (sd_one (sd_ret (pd_tup (xcons (xv 1 (.inl rfl)) (xcons (xtuple F.b_tuple (xcons (xsorted F.b_sorted (xcons (xv 4 (.inl rfl)) pd_nil)) pd_nil)) pd_nil))))))))))
abbrev nm_11 : List Str := ["_law_thing"]
theorem nd_11 : nm_11.Nodup := by decide +kernel
abbrev st_11 : Stmt := top 24
theorem sc_11 : FnScope nm_11 ["_law_thing"] (defScope st_11) := ⟨rfl, rfl, rfl, nd_11, rfl, by decide +kernel, by decide +kernel⟩
theorem bd_11 (F : Fa K mg base ff fd cc tP xc) {k : Nat} {lv : Lv} (L : LvOk P w K mg base (L2.CX P w) ⟨K, Tabs tP⟩ (some (gx xc)) (Fs ff fd) (k + 1) lv) {f : Addr} {cdv : Value} {A : Around} {outer : List PySem.Env} {s : Shared} {H : Hp} {E : XK}
    (hr : Gr.RoomG (k + 1) (A.deeper (envOfC "_law_whole" (defScope st_11) s.heap.objs.size f cdv))) : PSs (cxOf (L2.CX P w) P w K mg base nm_11 "_law_whole" (defScope st_11) f cdv A outer s H E) (defBody st_11) (semS ⟨K, Tabs tP⟩ (exE (gx xc) (wD_ E)) lv dn_11) :=
  (sd_one (sd_ret (pd_andV (xisi .int bt_int F.b_isinstance F.b_int (xv 0 (.inl rfl))) (pe_one (pd_not (xisi .bl bt_bool F.b_isinstance F.b_bool (xv 0 (.inl rfl))))))))
abbrev nm_12 : List Str := ["_law_frame_here", "_law_thing", "_law_found", "_law_pair", "_law_tie"]
theorem nd_12 : nm_12.Nodup := by decide +kernel
abbrev st_12 : Stmt := top 25
theorem sc_12 : FnScope nm_12 ["_law_frame_here", "_law_thing"] (defScope st_12) := ⟨rfl, rfl, rfl, nd_12, rfl, by decide +kernel, by decide +kernel⟩
theorem bd_12 (F : Fa K mg base ff fd cc tP xc) {k : Nat} {lv : Lv} (L : LvOk P w K mg base (L2.CX P w) ⟨K, Tabs tP⟩ (some (gx xc)) (Fs ff fd) (k + 1) lv) {f : Addr} {cdv : Value} {A : Around} {outer : List PySem.Env} {s : Shared} {H : Hp} {E : XK}
    (hr : Gr.RoomG (k + 1) (A.deeper (envOfC "_law_ties" (defScope st_12) s.heap.objs.size f cdv))) : PSs (cxOf (L2.CX P w) P w K mg base nm_12 "_law_ties" (defScope st_12) f cdv A outer s H E) (defBody st_12) (semS ⟨K, Tabs tP⟩ (exE (gx xc) (wD_ E)) lv dn_12) :=
  (sd_cons (sd_if (td_not (ytru (xisi2 .lst .tup bt_list bt_tuple F.b_isinstance F.b_list F.b_tuple (xv 1 (.inl rfl))))) (sd_one (sd_ret xnon)) sd_nil)
    (sd_cons (zasg (pd_lst pd_nil) (gname 2 nd_12 (.inl rfl) (.inl rfl)))
    (sd_cons (zfor (passes_of rfl) (id_val (xv 1 (.inl rfl))) (gname 3 nd_12 (.inl rfl) (.inl rfl)) (sd_cons (sd_if (PW.pt (td_or (td_not (ytru (xisi .tup bt_tuple F.b_isinstance F.b_tuple (xv 3 (.inl rfl))))) (td_or (ycmp (opd_ne hr.units) (xlen F.b_len (xcons (xv 3 (.inl rfl)) pd_nil)) xint) (td_or (td_not (ytru (xcall 11 L F.T hr (pass_E tk_of) (fun h => nomatch h) rfl rfl rfl (xcons (xix (xv 3 (.inl rfl)) xint) pd_nil)))) (td_or1 (td_not (ytru (xcall 11 L F.T hr (pass_E tk_of) (fun h => nomatch h) rfl rfl rfl (xcons (xix (xv 3 (.inl rfl)) xint) pd_nil))))))))) (sd_one (sd_ret xnon)) sd_nil)
    (sd_cons (zasg (pd_tup (xcons (xmin1 hr.units F.b_min (xcons (xv 3 (.inl rfl)) pd_nil)) (xcons (xmax1 hr.units F.b_max (xcons (xv 3 (.inl rfl)) pd_nil)) pd_nil))) (gname 4 nd_12 (.inl rfl) (.inl rfl)))
    (sd_cons (sd_if (PW.pt (td_or (ycmpI (opd_nin (units66 hr)) (xv 4 (.inl rfl)) (xix (xv 0 (.inl rfl)) xint)) (td_or1 (ycmpI (opd_in (units66 hr)) (xv 4 (.inl rfl)) (xv 2 (.inl rfl)))))) (sd_one (sd_ret xnon)) sd_nil)
    (sd_one (zexpr (st := sNil) (xmt PySem.F.slot_list_append PySem.F.type_list_append mtd_append (xv 2 (.inl rfl)) (xcons (xv 4 (.inl rfl)) pd_nil))))))))
    (sd_one (sd_ret (xv 2 (.inl rfl)))))))
abbrev nm_13 : List Str := ["_law_frame_here", "_law_thing", "_law_base", "_law_caught", "_law_found", "e"]
theorem nd_13 : nm_13.Nodup := by decide +kernel
abbrev st_13 : Stmt := top 26
theorem sc_13 : FnScope nm_13 ["_law_frame_here", "_law_thing", "_law_base"] (defScope st_13) := ⟨rfl, rfl, rfl, nd_13, rfl, by decide +kernel, by decide +kernel⟩
theorem bd_13 (F : Fa K mg base ff fd cc tP xc) {k : Nat} {lv : Lv} (L : LvOk P w K mg base (L2.CX P w) ⟨K, Tabs tP⟩ (some (gx xc)) (Fs ff fd) (k + 1) lv) {f : Addr} {cdv : Value} {A : Around} {outer : List PySem.Env} {s : Shared} {H : Hp} {E : XK}
    (hr : Gr.RoomG (k + 1) (A.deeper (envOfC "_law_told" (defScope st_13) s.heap.objs.size f cdv))) : PSs (cxOf (L2.CX P w) P w K mg base nm_13 "_law_told" (defScope st_13) f cdv A outer s H E) (defBody st_13) (semS ⟨K, Tabs tP⟩ (exE (gx xc) (wD_ E)) lv dn_13) :=
  (sd_cons (zasg xnon (gname 3 nd_13 (.inl rfl) (.inl rfl)))
    (sd_cons (zasg xnon (gname 4 nd_13 (.inl rfl) (.inl rfl)))
    (sd_cons (sd_if (ytru (xv 2 (.inl rfl))) (sd_one (ztryK 1 5 3 F.x_1 F.t_1 F.nx tk_of nd_13 (fun W1 pn1 xe1 tk1 po1 => (sd_one (zasg (xcall 7 L F.T hr (pass_E tk1) (fun h => nomatch h) rfl rfl rfl (xcons (xv 0 (.inl rfl)) (xcons (xv 1 (.inl rfl)) pd_nil))) (gname 4 nd_13 (.inl rfl) (.inl rfl))))))) (sd_one (ztryK 0 5 3 F.x_0 F.t_0 F.nx tk_of nd_13 (fun W1 pn1 xe1 tk1 po1 => (sd_one (zasg (xcall 7 L F.T hr (pass_E tk1) (fun h => nomatch h) rfl rfl rfl (xcons (xv 0 (.inl rfl)) (xcons (xv 1 (.inl rfl)) pd_nil))) (gname 4 nd_13 (.inl rfl) (.inl rfl))))))))
    (sd_cons (sd_if (ycmp (opd_is) (xv 3 (.inl rfl)) xnon) (sd_one (sd_ret (pd_tup (xcons xstr (xcons (xv 4 (.inl rfl)) pd_nil))))) sd_nil)
    (sd_cons (sd_if (ytru (xisxs (q := xq) (is := [2, 3, 4, 5, 6, 7, 8, 9]) F.nx (fun i hi => F.kiA i ((by decide : ∀ i ∈ ([2, 3, 4, 5, 6, 7, 8, 9] : List Nat), i ∈ KIS) i hi)) F.b_isinstance (xv 3 (.inl rfl)) (pa_vsc F.x_2.gC (pa_vsc F.x_3.gC (pa_vsc F.x_4.gC (pa_vsc F.x_5.gC (pa_vsc F.x_6.gC (pa_vsc F.x_7.gC (pa_vsc F.x_8.gC (pa_vsc F.x_9.gC pa_vs0)))))))))) (sd_one (sd_ret (pd_tup (xcons xstr (xcons xnon pd_nil))))) sd_nil)
    (sd_one (sd_ret (pd_tup (xcons (xix (pd_lst (xcons xstr (xcons xstr pd_nil))) (xintc F.b_int (xcons (pd_andV (xisx F.nx (.own _) (F.kiA 0 (by decide)) F.b_isinstance (xv 3 (.inl rfl)) (pa_vsc F.x_0.gC pa_vs0)) (pe_one (xisx F.nx (.ty "ValueError") F.kve F.b_isinstance (xv 3 (.inl rfl)) (pa_vst F.b_ValueError bt_VE pa_vs0)))) pd_nil))) (xcons xnon pd_nil))))))))))
abbrev nm_14 : List Str := ["_law_pen_here", "_law_found", "_law_k"]
theorem nd_14 : nm_14.Nodup := by decide +kernel
abbrev st_14 : Stmt := top 27
theorem sc_14 : FnScope nm_14 ["_law_pen_here"] (defScope st_14) := ⟨rfl, rfl, rfl, nd_14, rfl, by decide +kernel, by decide +kernel⟩
theorem bd_14 (F : Fa K mg base ff fd cc tP xc) {k : Nat} {lv : Lv} (L : LvOk P w K mg base (L2.CX P w) ⟨K, Tabs tP⟩ (some (gx xc)) (Fs ff fd) (k + 1) lv) {f : Addr} {cdv : Value} {A : Around} {outer : List PySem.Env} {s : Shared} {H : Hp} {E : XK}
    (hr : Gr.RoomG (k + 1) (A.deeper (envOfC "_law_deep" (defScope st_14) s.heap.objs.size f cdv))) : PSs (cxOf (L2.CX P w) P w K mg base nm_14 "_law_deep" (defScope st_14) f cdv A outer s H E) (defBody st_14) (semS ⟨K, Tabs tP⟩ (exE (gx xc) (wD_ E)) lv dn_14) :=
  (sd_cons (zasg (xix (pd_lst (xcons xint (xcons xnon (xcons (pd_tup (xcons xint (xcons xint pd_nil))) (xcons xbl pd_nil))))) (xcall 9 L F.T hr (pass_E tk_of) (fun h => nomatch h) rfl rfl rfl (xcons (xv 0 (.inl rfl)) (xcons xint pd_nil)))) (gname 1 nd_14 (.inl rfl) (.inl rfl)))
    (sd_cons (zfor (passes_of rfl) (irng1 F.b_range (xcons xint pd_nil)) (gname 2 nd_14 (.inl rfl) (.inl rfl)) (sd_one (zasg (xix (pd_lst (xcons (pd_tup (xcons (xv 1 (.inl rfl)) pd_nil)) (xcons (pd_lst (xcons (xv 1 (.inl rfl)) pd_nil)) (xcons (pd_tup (xcons xint (xcons (xv 1 (.inl rfl)) pd_nil))) pd_nil)))) (xcall 9 L F.T hr (pass_E tk_of) (fun h => nomatch h) rfl rfl rfl (xcons (xv 0 (.inl rfl)) (xcons xint pd_nil)))) (gname 1 nd_14 (.inl rfl) (.inl rfl)))))
    (sd_one (sd_ret (xv 1 (.inl rfl))))))
abbrev nm_15 : List Str := ["_law_pen_here", "_law_frame_here", "_law_web", "_law_many", "_law_way", "_law_at", "_law_one", "_law_other", "_law_place", "_law_some", "_law_odd", "_law_spot", "_law_pair"]
theorem nd_15 : nm_15.Nodup := by decide +kernel
abbrev st_15 : Stmt := top 28
theorem sc_15 : FnScope nm_15 ["_law_pen_here", "_law_frame_here", "_law_web"] (defScope st_15) := ⟨rfl, rfl, rfl, nd_15, rfl, by decide +kernel, by decide +kernel⟩
theorem bd_15 (F : Fa K mg base ff fd cc tP xc) {k : Nat} {lv : Lv} (L : LvOk P w K mg base (L2.CX P w) ⟨K, Tabs tP⟩ (some (gx xc)) (Fs ff fd) (k + 1) lv) {f : Addr} {cdv : Value} {A : Around} {outer : List PySem.Env} {s : Shared} {H : Hp} {E : XK}
    (hr : Gr.RoomG (k + 1) (A.deeper (envOfC "_law_spoilt" (defScope st_15) s.heap.objs.size f cdv))) : PSs (cxOf (L2.CX P w) P w K mg base nm_15 "_law_spoilt" (defScope st_15) f cdv A outer s H E) (defBody st_15) (semS ⟨K, Tabs tP⟩ (exE (gx xc) (wD_ E)) lv dn_15) :=
  (sd_cons (zasg (xix (xv 1 (.inl rfl)) xint) (gname 3 nd_15 (.inl rfl) (.inl rfl)))
    (sd_cons (zasg (xcall 9 L F.T hr (pass_E tk_of) (fun h => nomatch h) rfl rfl rfl (xcons (xv 0 (.inl rfl)) (xcons xint pd_nil))) (gname 4 nd_15 (.inl rfl) (.inl rfl)))
    (sd_cons (zasg (xcall 9 L F.T hr (pass_E tk_of) (fun h => nomatch h) rfl rfl rfl (xcons (xv 0 (.inl rfl)) (xcons (pd_op opd_add (xlen F.b_len (xcons (xv 2 (.inl rfl)) pd_nil)) xint) pd_nil))) (gname 5 nd_15 (.inl rfl) (.inl rfl)))
    (sd_cons (zasg (xix (pd_op opd_add (xv 2 (.inl rfl)) (pd_tup (xcons (pd_tup (xcons xint (xcons xint pd_nil))) pd_nil))) (xv 5 (.inl rfl))) (gtup (gcons (gname 6 nd_15 (.inl rfl) (.inl rfl)) (gcons (gname 7 nd_15 (.inl rfl) (.inl rfl)) gds_nil))))
    (sd_cons (zasg (xix (pd_lst (xcons (xv 3 (.inl rfl)) (xcons (pd_un und_neg xint) (xcons xbl (xcons xbl (xcons xnon (xcons xstr (xcons (pd_op opd_pow xint xint) (xcons (xcall 14 L F.T hr (pass_E tk_of) (fun h => nomatch h) rfl rfl rfl (xcons (xv 0 (.inl rfl)) pd_nil)) (xcons xint (xcons (pd_op opd_sub (xv 3 (.inl rfl)) xint) (xcons pd_dk0 (xcons (pd_lst (xcons (xv 6 (.inl rfl)) pd_nil)) pd_nil))))))))))))) (xcall 9 L F.T hr (pass_E tk_of) (fun h => nomatch h) rfl rfl rfl (xcons (xv 0 (.inl rfl)) (xcons xint pd_nil)))) (gname 8 nd_15 (.inl rfl) (.inl rfl)))
    (sd_cons (zasg (pd_lst (xcons (pd_tup (xcons (xv 7 (.inl rfl)) (xcons (xv 6 (.inl rfl)) pd_nil))) (xcons (pd_tup (xcons (xv 6 (.inl rfl)) (xcons (xv 8 (.inl rfl)) pd_nil))) (xcons (pd_tup (xcons (xv 8 (.inl rfl)) (xcons (xv 7 (.inl rfl)) pd_nil))) (xcons (pd_lst (xcons (xv 6 (.inl rfl)) (xcons (xv 7 (.inl rfl)) pd_nil))) (xcons (pd_tup (xcons (xv 6 (.inl rfl)) pd_nil)) (xcons (pd_tup (xcons (xv 6 (.inl rfl)) (xcons (xv 7 (.inl rfl)) (xcons (xv 7 (.inl rfl)) pd_nil)))) (xcons (pd_tup (xcons (xv 7 (.inl rfl)) (xcons (xv 7 (.inl rfl)) pd_nil))) pd_nil)))))))) (gname 9 nd_15 (.inl rfl) (.inl rfl)))
    (sd_cons (zasg (xix (pd_op opd_add (xv 9 (.inl rfl)) (pd_lst (xcons xnon (xcons xstr (xcons (pd_tup pd_nil) (xcons xint (xcons pd_dk0 (xcons (pd_tup (xcons (xcmp (opd_gt) (xv 6 (.inl rfl)) xint) (xcons (xcmp (opd_gt) (xv 7 (.inl rfl)) xint) pd_nil))) (xcons (xv 8 (.inl rfl)) pd_nil))))))))) (xcall 9 L F.T hr (pass_E tk_of) (fun h => nomatch h) rfl rfl rfl (xcons (xv 0 (.inl rfl)) (xcons xint pd_nil)))) (gname 10 nd_15 (.inl rfl) (.inl rfl)))
    (sd_cons (sd_if (ycmp (opd_eq hr.units) (xv 4 (.inl rfl)) xint) (sd_one (sd_ret (pd_op opd_add (pd_op opd_add (pd_sl (xv 2 (.inl rfl)) od_none (od_some (xv 5 (.inl rfl)))) (pd_tup (xcons (xv 10 (.inl rfl)) pd_nil))) (pd_sl (xv 2 (.inl rfl)) (od_some (pd_op opd_add (xv 5 (.inl rfl)) xint)) od_none)))) sd_nil)
    (sd_cons (sd_if (ycmp (opd_eq hr.units) (xv 4 (.inl rfl)) xint) (sd_one (sd_ret (pd_op opd_add (pd_op opd_add (pd_sl (xv 2 (.inl rfl)) od_none (od_some (xv 5 (.inl rfl)))) (pd_tup (xcons (xv 10 (.inl rfl)) pd_nil))) (pd_sl (xv 2 (.inl rfl)) (od_some (xv 5 (.inl rfl))) od_none)))) sd_nil)
    (sd_cons (sd_if (ycmp (opd_eq hr.units) (xv 4 (.inl rfl)) xint) (sd_cons (zasg (xcall 9 L F.T hr (pass_E tk_of) (fun h => nomatch h) rfl rfl rfl (xcons (xv 0 (.inl rfl)) (xcons (pd_op opd_add (xlen F.b_len (xcons (xv 2 (.inl rfl)) pd_nil)) xint) pd_nil))) (gname 11 nd_15 (.inl rfl) (.inl rfl)))
    (sd_cons (zasg (xix (pd_lst (xcons (pd_tup (xcons (xv 6 (.inl rfl)) (xcons (xv 7 (.inl rfl)) pd_nil))) (xcons (pd_tup (xcons (xv 7 (.inl rfl)) (xcons (xv 6 (.inl rfl)) pd_nil))) pd_nil))) (xcall 9 L F.T hr (pass_E tk_of) (fun h => nomatch h) rfl rfl rfl (xcons (xv 0 (.inl rfl)) (xcons xint pd_nil)))) (gname 12 nd_15 (.inl rfl) (.inl rfl)))
    (sd_one (sd_ret (pd_op opd_add (pd_op opd_add (pd_sl (xv 2 (.inl rfl)) od_none (od_some (xv 11 (.inl rfl)))) (pd_tup (xcons (xv 12 (.inl rfl)) pd_nil))) (pd_sl (xv 2 (.inl rfl)) (od_some (xv 11 (.inl rfl))) od_none)))))) sd_nil)
    (sd_cons (sd_if (ycmp (opd_eq hr.units) (xv 4 (.inl rfl)) xint) (sd_one (sd_ret (pd_op opd_add (pd_sl (xv 2 (.inl rfl)) (od_some (xv 5 (.inl rfl))) od_none) (pd_sl (xv 2 (.inl rfl)) od_none (od_some (xv 5 (.inl rfl))))))) sd_nil)
    (sd_cons (sd_if (ycmp (opd_eq hr.units) (xv 4 (.inl rfl)) xint) (sd_one (sd_ret (pd_op opd_add (xtuple F.b_tuple (xcons (xlc [("_law_pair", 12)] nd_15 (id_val (pd_sl (xv 2 (.inl rfl)) od_none (od_some (xv 5 (.inl rfl))))) (show BlkOk nm_15 (defScope st_15) _ [("_law_pair", 12)] from ⟨rfl, by decide +kernel, by decide +kernel, by decide +kernel, by decide +kernel⟩) ⟨fun _ _ _ _ _ => (gname 12 nd_15 (.inl rfl) (.inr rfl)), fun _ _ _ _ _ => ptsYes, fun _ _ _ _ _ => (pd_rev (xv 12 (.inl rfl)))⟩) pd_nil)) (pd_sl (xv 2 (.inl rfl)) (od_some (xv 5 (.inl rfl))) od_none)))) sd_nil)
    (sd_cons (sd_if (ycmp (opd_eq hr.units) (xv 4 (.inl rfl)) xint) (sd_one (sd_ret (xix (pd_lst (xcons xnon (xcons xbl (xcons xint (xcons xstr (xcons pd_dk0 (xcons (xdn1 hr.units (pd_tup (xcons xint (xcons xint pd_nil))) xbl) (xcons (xcall 14 L F.T hr (pass_E tk_of) (fun h => nomatch h) rfl rfl rfl (xcons (xv 0 (.inl rfl)) pd_nil)) (xcons (pd_tup (xcons (pd_tup pd_nil) pd_nil)) pd_nil))))))))) (xcall 9 L F.T hr (pass_E tk_of) (fun h => nomatch h) rfl rfl rfl (xcons (xv 0 (.inl rfl)) (xcons xint pd_nil)))))) sd_nil)
    (sd_cons (sd_if (ycmp (opd_eq hr.units) (xv 4 (.inl rfl)) xint) (sd_one (sd_ret (pd_op opd_add (pd_rev (xv 2 (.inl rfl))) (pd_sl (pd_op opd_add (xix (xv 1 (.inl rfl)) xint) (pd_tup (xcons (pd_tup (xcons xint (xcons xint pd_nil))) pd_nil))) od_none (od_some xint))))) sd_nil)
    (sd_one (sd_ret (xv 2 (.inl rfl))))))))))))))))))
abbrev nm_16 : List Str := ["_law_pen_here", "_law_frame_here", "_law_thing", "_law_ties_here", "_law_kept", "_law_word", "_law_due", "_law_way", "_law_found"]
theorem nd_16 : nm_16.Nodup := by decide +kernel
abbrev st_16 : Stmt := top 29
theorem sc_16 : FnScope nm_16 ["_law_pen_here", "_law_frame_here", "_law_thing"] (defScope st_16) := ⟨rfl, rfl, rfl, nd_16, rfl, by decide +kernel, by decide +kernel⟩
theorem bd_16 (F : Fa K mg base ff fd cc tP xc) {k : Nat} {lv : Lv} (L : LvOk P w K mg base (L2.CX P w) ⟨K, Tabs tP⟩ (some (gx xc)) (Fs ff fd) (k + 1) lv) {f : Addr} {cdv : Value} {A : Around} {outer : List PySem.Env} {s : Shared} {H : Hp} {E : XK}
    (hr : Gr.RoomG (k + 1) (A.deeper (envOfC "_law_right" (defScope st_16) s.heap.objs.size f cdv))) : PSs (cxOf (L2.CX P w) P w K mg base nm_16 "_law_right" (defScope st_16) f cdv A outer s H E) (defBody st_16) (semS ⟨K, Tabs tP⟩ (exE (gx xc) (wD_ E)) lv dn_16) :=
  (sd_cons (sd_if (PW.pt (td_and (ytru (xisi .tup bt_tuple F.b_isinstance F.b_tuple (xv 2 (.inl rfl)))) (td_and1 (ycmp (opd_eq hr.units) (xcall 9 L F.T hr (pass_E tk_of) (fun h => nomatch h) rfl rfl rfl (xcons (xv 0 (.inl rfl)) (xcons xint pd_nil))) xint)))) (sd_one (zasg (xlist F.b_list (xcons (xv 2 (.inl rfl)) pd_nil)) (gname 2 nd_16 (.inl rfl) (.inl rfl)))) sd_nil)
    (sd_cons (zasg (xcall 12 L F.T hr (pass_E tk_of) (fun h => nomatch h) rfl rfl rfl (xcons (xv 1 (.inl rfl)) (xcons (xv 2 (.inl rfl)) pd_nil))) (gname 3 nd_16 (.inl rfl) (.inl rfl)))
    (sd_cons (zasg (xreprF F.sm hr F.b_repr (xcons (pd_lst (xcons (xv 1 (.inl rfl)) (xcons (xv 2 (.inl rfl)) pd_nil))) pd_nil)) (gname 4 nd_16 (.inl rfl) (.inl rfl)))
    (sd_cons (zasg (xcall 6 L F.T hr (pass_E tk_of) (fun h => nomatch h) rfl rfl rfl (xcons (xv 1 (.inl rfl)) (xcons (xv 2 (.inl rfl)) pd_nil))) (gname 5 nd_16 (.inl rfl) (.inl rfl)))
    (sd_cons (zasg (pd_andV (xisi .tup bt_tuple F.b_isinstance F.b_tuple (xv 2 (.inl rfl))) (pd_andV (xcmp (opd_isn) (xv 3 (.inl rfl)) xnon) (pe_one (xcmp (opd_eq hr.units) (xlist F.b_list (xcons (xv 2 (.inl rfl)) pd_nil)) (xsorted F.b_sorted (xcons (xv 3 (.inl rfl)) pd_nil)))))) (gname 6 nd_16 (.inl rfl) (.inl rfl)))
    (sd_cons (sd_if (PW.pt (td_or (td_not (ytru (xisi .bl bt_bool F.b_isinstance F.b_bool (xv 5 (.inl rfl))))) (td_or1 (ycmp (opd_ne hr.units) (xv 5 (.inl rfl)) (xv 6 (.inl rfl)))))) (sd_one (sd_ret xbl)) sd_nil)
    (sd_cons (zasg (xcall 13 L F.T hr (pass_E tk_of) (fun h => nomatch h) rfl rfl rfl (xcons (xv 1 (.inl rfl)) (xcons (xv 2 (.inl rfl)) (xcons (xcmp (opd_eq hr.units) (xcall 9 L F.T hr (pass_E tk_of) (fun h => nomatch h) rfl rfl rfl (xcons (xv 0 (.inl rfl)) (xcons xint pd_nil))) xint) pd_nil)))) (gtup (gcons (gname 7 nd_16 (.inl rfl) (.inl rfl)) (gcons (gname 8 nd_16 (.inl rfl) (.inl rfl)) gds_nil))))
    (sd_cons (sd_if (ycmp (opd_ne hr.units) (xreprF F.sm hr F.b_repr (xcons (pd_lst (xcons (xv 1 (.inl rfl)) (xcons (xv 2 (.inl rfl)) pd_nil))) pd_nil)) (xv 4 (.inl rfl))) (sd_one (sd_ret xbl)) sd_nil)
    (sd_cons (sd_if (ycmp (opd_is) (xv 3 (.inl rfl)) xnon) (sd_one (sd_ret (xcmp (opd_eq hr.units) (xv 7 (.inl rfl)) xstr))) sd_nil)
    (sd_cons (sd_if (ytru (xisi .lst bt_list F.b_isinstance F.b_list (xv 2 (.inl rfl)))) (sd_one (zexpr (st := sNil) (xmt PySem.F.slot_list_append PySem.F.type_list_append mtd_append (xv 2 (.inl rfl)) (xcons (pd_tup (xcons xint (xcons xint pd_nil))) pd_nil)))) sd_nil)
    (sd_cons (sd_if (PW.pt (td_or (ycmp (opd_ne hr.units) (xv 7 (.inl rfl)) xstr) (td_or (td_not (ytru (xisi .tup bt_tuple F.b_isinstance F.b_tuple (xv 8 (.inl rfl))))) (td_or1 (ycmp (opd_ne hr.units) (xv 8 (.inl rfl)) (xtuple F.b_tuple (xcons (xsorted F.b_sorted (xcons (xv 3 (.inl rfl)) pd_nil)) pd_nil))))))) (sd_one (sd_ret xbl)) sd_nil)
    (sd_one (sd_ret (xcmp (opd_is) (xcall 6 L F.T hr (pass_E tk_of) (fun h => nomatch h) rfl rfl rfl (xcons (xv 1 (.inl rfl)) (xcons (xv 8 (.inl rfl)) pd_nil))) xbl))))))))))))))
abbrev nm_17 : List Str := ["_law_script", "_law_k", "_law_pen_here", "_law_frame_here", "_law_web", "_law_turn", "_law_tie"]
theorem nd_17 : nm_17.Nodup := by decide +kernel
abbrev st_17 : Stmt := top 30
theorem sc_17 : FnScope nm_17 ["_law_script"] (defScope st_17) := ⟨rfl, rfl, rfl, nd_17, rfl, by decide +kernel, by decide +kernel⟩
theorem bd_17 (F : Fa K mg base ff fd cc tP xc) {k : Nat} {lv : Lv} (L : LvOk P w K mg base (L2.CX P w) ⟨K, Tabs tP⟩ (some (gx xc)) (Fs ff fd) (k + 1) lv) {f : Addr} {cdv : Value} {A : Around} {outer : List PySem.Env} {s : Shared} {H : Hp} {E : XK}
    (hr : Gr.RoomG (k + 1) (A.deeper (envOfC "law" (defScope st_17) s.heap.objs.size f cdv))) : PSs (cxOf (L2.CX P w) P w K mg base nm_17 "law" (defScope st_17) f cdv A outer s H E) (defBody st_17) (semS ⟨K, Tabs tP⟩ (exE (gx xc) (wD_ E)) lv dn_17) :=
  (sd_cons (zfor (passes_of rfl) (irng1 F.b_range (xcons xint pd_nil)) (gname 1 nd_17 (.inl rfl) (.inl rfl)) (sd_cons (zasg (xcall 8 L F.T hr (pass_E tk_of) (fun h => nomatch h) rfl rfl rfl (xcons (xv 0 (.inl rfl)) (xcons (xv 1 (.inl rfl)) pd_nil))) (gname 2 nd_17 (.inr rfl) (.inl rfl)))
    (sd_cons (zasg (xcall 10 L F.T hr (pass_E tk_of) (fun h => nomatch h) rfl rfl rfl (xcons (xv 2 (.inr (.inl rfl))) pd_nil)) (gname 3 nd_17 (.inl rfl) (.inl rfl)))
    (sd_cons (zasg (xtuple F.b_tuple (xcons (xlc [("_law_tie", 6)] nd_17 (id_val (xix (xv 3 (.inl rfl)) xint)) (show BlkOk nm_17 (defScope st_17) _ [("_law_tie", 6)] from ⟨rfl, by decide +kernel, by decide +kernel, by decide +kernel, by decide +kernel⟩) ⟨fun _ _ _ _ _ => (gname 6 nd_17 (.inl rfl) (.inr rfl)), fun _ _ _ _ _ => (pts_one (ycmp (opd_gt) (xcall 9 L F.T hr pass_noE (fun h => nomatch h) rfl rfl rfl (xcons (xv 2 (.inr (.inl rfl))) (xcons xint pd_nil))) xint)), fun _ _ _ _ _ => (xv 6 (.inl rfl))⟩) pd_nil)) (gname 4 nd_17 (.inl rfl) (.inl rfl)))
    (sd_one (zfor (passes_of rfl) (irng1 F.b_range (xcons xint pd_nil)) (gname 5 nd_17 (.inl rfl) (.inl rfl)) (sd_one (sd_if (PW.pt (td_or (td_not (ytru (xcall 16 L F.T hr (pass_E tk_of) (fun h => nomatch h) rfl rfl rfl (xcons (xv 2 (.inr (.inl rfl))) (xcons (xv 3 (.inl rfl)) (xcons (xcall 15 L F.T hr (pass_E tk_of) (fun h => nomatch h) rfl rfl rfl (xcons (xv 2 (.inr (.inl rfl))) (xcons (xv 3 (.inl rfl)) (xcons (xv 4 (.inl rfl)) pd_nil)))) pd_nil)))))) (td_or1 (td_not (ytru (xcall 16 L F.T hr (pass_E tk_of) (fun h => nomatch h) rfl rfl rfl (xcons (xv 2 (.inr (.inl rfl))) (xcons (xv 3 (.inl rfl)) (xcons (xv 4 (.inl rfl)) pd_nil))))))))) (sd_one (sd_ret xbl)) sd_nil))))))))
    (sd_one (sd_ret xbl)))
end
end Pn

namespace Dv
open PySem

section
variable {α β : Type} {Q : α → Sto → Prop} {W : Nat → Sto → Prop} {S : Sto}
theorem wpq {x : R α} : (quiet x).wp Q W ↔ x.wp Q noX := by cases x <;> exact Iff.rfl
theorem wpi {c : Prop} [Decidable c] {x y : R α} : (if c then x else y).wp Q W ↔ (c → x.wp Q W) ∧ (¬ c → y.wp Q W) := by by_cases h : c <;> simp [h]
theorem wps {x : R α} {ρ : Env} {f : α → Sto → R Fl} {Q : Fl → Sto → Prop} : (x.bindS ρ f).wp Q W ↔ x.wp (fun a S => (f a S).wp Q W) (fun c S => Q (.xc c ρ) S) := by cases x <;> exact Iff.rfl
/-- no error comes, and so much is known of the value -/
theorem R.to {x : R α} {Q' : α → Sto → Prop} (h : x.wp Q noX) (i : ∀ a S, Q a S → Q' a S) : x.wp Q' W := R.wp_mono h i fun _ _ z => z.elim
theorem R.wp_get {x : R α} (h : x.wp Q noX) : ∃ a S, x = .ok a S ∧ Q a S := by
  cases x with
  | ok a S => exact ⟨a, S, rfl, h⟩
  | ex c S => exact h.elim
  | no => exact h.elim
theorem R.eq_of {x : R α} {a : α} (h : x.wp (fun b T => b = a ∧ T = S) noX) : x = .ok a S := by
  obtain ⟨b, T, e, rfl, rfl⟩ := R.wp_get h
  exact e
end
/-- how a def ends -/
def FlR (Q : D → Sto → Prop) (W : Nat → Sto → Prop) : Fl → Sto → Prop := fun f S => match f with
  | .nx _ => Q .non S
  | .rt d => Q d S
  | .xc c _ => W c S
  | _ => False
theorem wpF {b : DenS} {n : Nat} {lv : Lv} {ds : List D} {S : Sto} {Q : D → Sto → Prop} {W : Nat → Sto → Prop} (h : (b lv (startE n ds) S).wp (FlR Q W) noX) : (runF b n lv ds S).wp Q W := by
  unfold runF
  obtain ⟨f, S1, e, q⟩ := R.wp_get h
  rw [e]
  cases f <;> first | exact q | exact q.elim
theorem wpP {bs : Bodies} {m i : Nat} {b : DenS} {n : Nat} {ds : List D} {S : Sto} {Q : D → Sto → Prop} {W : Nat → Sto → Prop} (hm : 2 ≤ m) (hb : bs[i]? = some (b, n)) (h : (b (Phi bs (m - 1)) (startE n ds) S).wp (FlR Q W) noX) : (Phi bs m 0 i ds S).wp Q W := by
  obtain ⟨k, rfl⟩ : ∃ k, m = k + 2 := ⟨m - 2, by omega⟩
  rw [Phi_run hb]
  exact wpF h
theorem dnP {bs : Bodies} {m : Nat} (hm : 1 ≤ m) : (Phi bs m).dn = Phi bs (m - 1) := by
  obtain ⟨k, rfl⟩ : ∃ k, m = k + 1 := ⟨m - 1, by omega⟩
  rfl
/-- of what kind a thing is -/
@[simp] def isTp : D → Bool
  | .tup _ => true
  | _ => false
@[simp] def isIn : D → Bool
  | .int _ => true
  | .bl _ => true
  | _ => false
@[simp] def isBo : D → Bool
  | .bl _ => true
  | _ => false
@[simp] def isSt : D → Bool
  | .str _ => true
  | _ => false
section
variable {d : D} {S : Sto}
@[simp] theorem kd_t : isK (kdOf d S) .tup = isTp d := by
  cases d with
  | ref i =>
    unfold kdOf
    dsimp only
    split <;> rfl
  | _ => rfl
@[simp] theorem kd_i : isK (kdOf d S) .int = isIn d := by
  cases d with
  | ref i =>
    unfold kdOf
    dsimp only
    split <;> rfl
  | _ => rfl
@[simp] theorem kd_b : isK (kdOf d S) .bl = isBo d := by
  cases d with
  | ref i =>
    unfold kdOf
    dsimp only
    split <;> rfl
  | _ => rfl
@[simp] theorem kd_s : isK (kdOf d S) .str = isSt d := by
  cases d with
  | ref i =>
    unfold kdOf
    dsimp only
    split <;> rfl
  | _ => rfl
end
/-- walks -/
def forQ (J : Dv.Env → Sto → Prop) (Q : Fl → Sto → Prop) : Fl → Sto → Prop := fun f S2 => match f with
  | .nx ρ2 => J ρ2 S2
  | .ct ρ2 => J ρ2 S2
  | .bk ρ2 => Q (.nx ρ2) S2
  | .rt d => Q (.rt d) S2
  | .xc c ρ2 => Q (.xc c ρ2) S2
section
variable {J : Dv.Env → Sto → Prop} {Q : Fl → Sto → Prop} {ρ : Dv.Env} {S : Sto}
@[simp] theorem forQ_nx : forQ J Q (.nx ρ) S ↔ J ρ S := id Iff.rfl
@[simp] theorem forQ_ct : forQ J Q (.ct ρ) S ↔ J ρ S := id Iff.rfl
@[simp] theorem forQ_bk : forQ J Q (.bk ρ) S ↔ Q (.nx ρ) S := id Iff.rfl
@[simp] theorem forQ_rt {d : D} : forQ J Q (.rt d) S ↔ Q (.rt d) S := id Iff.rfl
@[simp] theorem forQ_xc {c : Nat} : forQ J Q (.xc c ρ) S ↔ Q (.xc c ρ) S := id Iff.rfl
end
theorem for_inv {chk : Sto → Prop} {t : Tg} {body : Dv.Env → Sto → R Fl} {Q : Fl → Sto → Prop} {W : Nat → Sto → Prop} (I : List D → Dv.Env → Sto → Prop)
    (step : ∀ x xs ρ S, I (x :: xs) ρ S → chk S ∧ ∃ ρ1, tgD t x ρ = some ρ1 ∧ (body ρ1 S).wp (forQ (I xs) Q) W)
    (fin : ∀ ρ S, I [] ρ S → chk S ∧ Q (.nx ρ) S) : ∀ xs ρ S, I xs ρ S → (forGo chk t body xs ρ S).wp Q W
  | [], ρ, S, h => by
    obtain ⟨h1, h2⟩ := fin ρ S h
    unfold forGo
    rw [if_pos h1]
    exact h2
  | x :: xs, ρ, S, h => by
    obtain ⟨h1, ρ1, h2, h3⟩ := step x xs ρ S h
    unfold forGo
    rw [if_pos h1]
    simp only [h2]
    refine R.wp_bind.mpr (R.wp_mono h3 (fun f S2 q => ?_) fun _ _ z => z)
    cases f with
    | nx ρ2 => exact for_inv I step fin xs ρ2 S2 q
    | ct ρ2 => exact for_inv I step fin xs ρ2 S2 q
    | bk ρ2 => exact q
    | rt d => exact q
    | xc c ρ2 => exact q
def lcQ2 (n : Nat) (J : Sto → Prop) : D → Sto → Prop := fun y S2 => ∃ acc, S2[n]? = some (.lst true acc) ∧ acc.length < mx ∧ J (S2.set n (.lst true (acc ++ [y])))
def lcQ1 (n : Nat) (elt : Sto → R D) (J : Sto → Prop) : Bool → Sto → Prop := fun b S1 => (b = true → (elt S1).wp (lcQ2 n J) noX) ∧ (b = false → J S1)
@[simp] theorem lcQ1_t {n : Nat} {elt : Sto → R D} {J : Sto → Prop} {S : Sto} : lcQ1 n elt J true S ↔ (elt S).wp (lcQ2 n J) noX := ⟨fun h => h.1 rfl, fun h => ⟨fun _ => h, fun e => by cases e⟩⟩
@[simp] theorem lcQ1_f {n : Nat} {elt : Sto → R D} {J : Sto → Prop} {S : Sto} : lcQ1 n elt J false S ↔ J S := ⟨fun h => h.2 rfl, fun h => ⟨fun e => absurd e (by decide), fun _ => h⟩⟩
/-- comprehensions -/
theorem lc_inv {n : Nat} {chk : Sto → Prop} {t : Tg} {cond : Dv.Env → Sto → R Bool} {elt : Dv.Env → Sto → R D} {ρ : Dv.Env} {Q : D → Sto → Prop} {W : Nat → Sto → Prop} (I : List D → Sto → Prop)
    (step : ∀ x xs S, I (x :: xs) S → chk S ∧ ∃ ρ1, tgD t x ρ = some ρ1 ∧ (cond ρ1 S).wp (lcQ1 n (elt ρ1) (I xs)) noX)
    (fin : ∀ S, I [] S → chk S ∧ Q (.ref n) S) : ∀ xs S, I xs S → (lcGo n chk t cond elt ρ xs S).wp Q W
  | [], S, h => by
    obtain ⟨h1, h2⟩ := fin S h
    unfold lcGo
    rw [if_pos h1]
    exact h2
  | x :: xs, S, h => by
    obtain ⟨h1, ρ1, h2, h3⟩ := step x xs S h
    unfold lcGo
    rw [if_pos h1]
    simp only [h2]
    refine R.wp_bind.mpr (wpq.mpr (R.wp_mono h3 (fun b S1 q => ?_) fun _ _ z => z))
    cases b with
    | false =>
      exact lc_inv I step fin xs S1 (q.2 rfl)
    | true =>
      refine R.wp_bind.mpr (wpq.mpr (R.wp_mono (q.1 rfl) (fun y S2 q2 => ?_) fun _ _ z => z))
      obtain ⟨acc, e1, e2, q3⟩ := q2
      simp only [e1]
      rw [if_pos e2]
      exact lc_inv I step fin xs _ q3
end Dv

namespace Dv
open PySem

/-! ### one step behind another: what comes first is worked out first; what is to come is a name with its things -/
@[simp] theorem mx_v : mx = 1000000 := id rfl
/-- what is to come behind a part -/
def bK {α β : Type} (f : α → Sto → R β) (Q : β → Sto → Prop) (W : Nat → Sto → Prop) : α → Sto → Prop := fun a S => (f a S).wp Q W
@[simp] theorem bK_ap {α β : Type} {f : α → Sto → R β} {Q : β → Sto → Prop} {W : Nat → Sto → Prop} {a : α} {S : Sto} : bK f Q W a S ↔ (f a S).wp Q W := id Iff.rfl
def xK (Q : Fl → Sto → Prop) (ρ : Dv.Env) : Nat → Sto → Prop := fun c S => Q (.xc c ρ) S
@[simp] theorem xK_ap {Q : Fl → Sto → Prop} {ρ : Dv.Env} {c : Nat} {S : Sto} : xK Q ρ c S ↔ Q (.xc c ρ) S := id Iff.rfl
@[simp] theorem wB {α β : Type} {x : R α} {f : α → Sto → R β} {Q : β → Sto → Prop} {W : Nat → Sto → Prop} : (x.bind f).wp Q W ↔ x.wp (bK f Q W) W := R.wp_bind
@[simp] theorem wS {α : Type} {x : R α} {ρ : Dv.Env} {f : α → Sto → R Fl} {Q : Fl → Sto → Prop} {W : Nat → Sto → Prop} : (x.bindS ρ f).wp Q W ↔ x.wp (bK f Q W) (xK Q ρ) := wps
@[simp] theorem wQ {α : Type} {x : R α} {Q : α → Sto → Prop} {W : Nat → Sto → Prop} : (quiet x).wp Q W ↔ x.wp Q noX := wpq
theorem wpg {α : Type} {c : Prop} [Decidable c] {x : R α} {Q : α → Sto → Prop} {W : Nat → Sto → Prop} : (if c then x else R.no).wp Q W ↔ c ∧ x.wp Q W := by by_cases h : c <;> simp [h]
@[simp] theorem wpi2 {α : Type} {c : Prop} [Decidable c] {x y : R α} {Q : α → Sto → Prop} {W : Nat → Sto → Prop} : (if c then x else y).wp Q W ↔ (c → x.wp Q W) ∧ (¬ c → y.wp Q W) := wpi
@[simp high] theorem wpg2 {α : Type} {c : Prop} [Decidable c] {x : R α} {Q : α → Sto → Prop} {W : Nat → Sto → Prop} : (if c then x else R.no).wp Q W ↔ c ∧ x.wp Q W := wpg
@[simp] theorem quiet_ok {α : Type} {a : α} {S : Sto} : quiet (.ok a S) = .ok a S := id rfl
section
variable {Q : D → Sto → Prop} {W : Nat → Sto → Prop} {S : Sto} {ρ : Dv.Env}
@[simp] theorem FlR_rt {d : D} : FlR Q W (.rt d) S ↔ Q d S := id Iff.rfl
@[simp] theorem FlR_nx : FlR Q W (.nx ρ) S ↔ Q .non S := id Iff.rfl
@[simp] theorem FlR_xc {c : Nat} : FlR Q W (.xc c ρ) S ↔ W c S := id Iff.rfl
@[simp] theorem FlR_bk : FlR Q W (.bk ρ) S ↔ False := id Iff.rfl
@[simp] theorem FlR_ct : FlR Q W (.ct ρ) S ↔ False := id Iff.rfl
end
def optR : Option D → Sto → R D
  | some x, S => .ok x S
  | none, _ => .no
@[simp] theorem optR_some {x : D} {S : Sto} : optR (some x) S = .ok x S := id rfl
section
variable {lv : Lv} {ρ : Dv.Env} {S : Sto} {a b : Den} {ra : DenA} {ta tb : DenT}
@[simp] theorem ev_C {d : D} : dC d lv ρ S = .ok d S := id rfl
@[simp] theorem ev_nil : dNil lv ρ S = .ok [] S := id rfl
def cK2 (x : D) : List D → Sto → R (List D) := fun xs S => .ok (x :: xs) S
@[simp] theorem cK2_ap {x : D} {xs : List D} {S : Sto} : cK2 x xs S = .ok (x :: xs) S := id rfl
def cK1 (ra : DenA) (lv : Lv) (ρ : Dv.Env) : D → Sto → R (List D) := fun x S => (ra lv ρ S).bind (cK2 x)
@[simp] theorem cK1_ap {ra : DenA} {lv : Lv} {ρ : Dv.Env} {x : D} {S : Sto} : cK1 ra lv ρ x S = (ra lv ρ S).bind (cK2 x) := id rfl
@[simp] theorem ev_cons : dCons a ra lv ρ S = (a lv ρ S).bind (cK1 ra lv ρ) := id rfl
def opK2 (o : Op2) (x : D) : D → Sto → R D := fun y S => quiet (o x y S)
@[simp] theorem opK2_ap {o : Op2} {x : D} {y : D} {S : Sto} : opK2 o x y S = quiet (o x y S) := id rfl
def opK1 (o : Op2) (b : Den) (lv : Lv) (ρ : Dv.Env) : D → Sto → R D := fun x S => (b lv ρ S).bind (opK2 o x)
@[simp] theorem opK1_ap {o : Op2} {b : Den} {lv : Lv} {ρ : Dv.Env} {x : D} {S : Sto} : opK1 o b lv ρ x S = (b lv ρ S).bind (opK2 o x) := id rfl
@[simp] theorem ev_op {o : Op2} : dOp o a b lv ρ S = (a lv ρ S).bind (opK1 o b lv ρ) := id rfl
def unK (o : Op1) : D → Sto → R D := fun x S => quiet (o x S)
@[simp] theorem unK_ap {o : Op1} {x : D} {S : Sto} : unK o x S = quiet (o x S) := id rfl
@[simp] theorem ev_un {o : Op1} : dUn o a lv ρ S = (a lv ρ S).bind (unK o) := id rfl
def clK (o : OpN) : List D → Sto → R D := fun xs S => quiet (o xs S)
@[simp] theorem clK_ap {o : OpN} {xs : List D} {S : Sto} : clK o xs S = quiet (o xs S) := id rfl
@[simp] theorem ev_cl {o : OpN} : dCl o ra lv ρ S = (ra lv ρ S).bind (clK o) := id rfl
def tupK : List D → Sto → R D := fun xs S => if xs.length ≤ mx then .ok (.tup xs) S else .no
@[simp] theorem tupK_ap {xs : List D} {S : Sto} : tupK xs S = if xs.length ≤ mx then .ok (.tup xs) S else .no := id rfl
def lstK : List D → Sto → R D := fun xs S => if xs.length ≤ mx then .ok (.ref S.length) (S ++ [.lst true xs]) else .no
@[simp] theorem lstK_ap {xs : List D} {S : Sto} : lstK xs S = if xs.length ≤ mx then .ok (.ref S.length) (S ++ [.lst true xs]) else .no := id rfl
@[simp] theorem ev_tup : dTup ra lv ρ S = (ra lv ρ S).bind tupK := id rfl
@[simp] theorem ev_lst : dLst ra lv ρ S = (ra lv ρ S).bind lstK := id rfl
def isiK (T : Ty) : D → Sto → R D := fun d S => .ok (.bl (isK (kdOf d S) T)) S
@[simp] theorem isiK_ap {T : Ty} {d : D} {S : Sto} : isiK T d S = .ok (.bl (isK (kdOf d S) T)) S := id rfl
@[simp] theorem ev_isi {T : Ty} : dIsi T a lv ρ S = (a lv ρ S).bind (isiK T) := id rfl
def mtK2 (m : OpM) (x : D) : List D → Sto → R D := fun xs S => quiet (m x xs S)
@[simp] theorem mtK2_ap {m : OpM} {x : D} {xs : List D} {S : Sto} : mtK2 m x xs S = quiet (m x xs S) := id rfl
def mtK1 (m : OpM) (ra : DenA) (lv : Lv) (ρ : Dv.Env) : D → Sto → R D := fun x S => if isL x S = true then (ra lv ρ S).bind (mtK2 m x) else .no
@[simp] theorem mtK1_ap {m : OpM} {ra : DenA} {lv : Lv} {ρ : Dv.Env} {x : D} {S : Sto} : mtK1 m ra lv ρ x S = if isL x S = true then (ra lv ρ S).bind (mtK2 m x) else .no := id rfl
@[simp] theorem ev_mt {m : OpM} : dMt m a ra lv ρ S = (a lv ρ S).bind (mtK1 m ra lv ρ) := id rfl
def caK (i : Nat) (n : Nat) (lv : Lv) : List D → Sto → R D := fun xs S => if xs.length = n then lv 0 i xs S else .no
@[simp] theorem caK_ap {i : Nat} {n : Nat} {lv : Lv} {xs : List D} {S : Sto} : caK i n lv xs S = if xs.length = n then lv 0 i xs S else .no := id rfl
@[simp] theorem ev_call {i n : Nat} : dCallF i n ra lv ρ S = (ra lv ρ S).bind (caK i n lv) := id rfl
def varR : Option (Option D) → Sto → R D
  | some (some d), S => .ok d S
  | _, _ => .no
@[simp] theorem varR_s {d : D} : varR (some (some d)) S = .ok d S := id rfl
@[simp] theorem ev_var {i : Nat} : dVar i lv ρ S = varR ρ[i]? S := by
  unfold dVar varR
  cases ρ[i]? with
  | none => rfl
  | some o => cases o <;> rfl
def blR : D → Sto → R Bool
  | .bl c, S => .ok c S
  | _, _ => .no
@[simp] theorem blR_bl {c : Bool} : blR (.bl c) S = .ok c S := id rfl
@[simp] theorem ev_Bl : dBl a lv ρ S = (a lv ρ S).bind blR := by
  unfold dBl
  congr 1
  funext x S1
  cases x <;> rfl
def truR : Option Bool → Sto → R Bool
  | some c, S => .ok c S
  | none, _ => .no
@[simp] theorem truR_s {c : Bool} : truR (some c) S = .ok c S := id rfl
def trK : D → Sto → R Bool := fun x S => truR (truD x S) S
@[simp] theorem trK_ap {x : D} : trK x S = truR (truD x S) S := id rfl
@[simp] theorem ev_Tru : dTru a lv ρ S = (a lv ρ S).bind trK := by
  unfold dTru
  congr 1
  funext x S1
  unfold trK
  cases truD x S1 <;> rfl
def anT (tb : DenT) (lv : Lv) (ρ : Dv.Env) : Bool → Sto → R Bool := fun x S => if x = true then tb lv ρ S else .ok false S
@[simp] theorem anT_ap {tb : DenT} {lv : Lv} {ρ : Dv.Env} {x : Bool} {S : Sto} : anT tb lv ρ x S = if x = true then tb lv ρ S else .ok false S := id rfl
@[simp] theorem ev_anT : dAndT ta tb lv ρ S = (ta lv ρ S).bind (anT tb lv ρ) := id rfl
def orT (tb : DenT) (lv : Lv) (ρ : Dv.Env) : Bool → Sto → R Bool := fun x S => if x = true then .ok true S else tb lv ρ S
@[simp] theorem orT_ap {tb : DenT} {lv : Lv} {ρ : Dv.Env} {x : Bool} {S : Sto} : orT tb lv ρ x S = if x = true then .ok true S else tb lv ρ S := id rfl
@[simp] theorem ev_orT : dOrT ta tb lv ρ S = (ta lv ρ S).bind (orT tb lv ρ) := id rfl
def noT : Bool → Sto → R Bool := fun x S => .ok (!x) S
@[simp] theorem noT_ap  {x : Bool} {S : Sto} : noT x S = .ok (!x) S := id rfl
@[simp] theorem ev_notT : dNotT ta lv ρ S = (ta lv ρ S).bind noT := id rfl
def itK (a : Den) (b : Den) (lv : Lv) (ρ : Dv.Env) : Bool → Sto → R D := fun x S => if x = true then a lv ρ S else b lv ρ S
@[simp] theorem itK_ap {a : Den} {b : Den} {lv : Lv} {ρ : Dv.Env} {x : Bool} {S : Sto} : itK a b lv ρ x S = if x = true then a lv ρ S else b lv ρ S := id rfl
@[simp] theorem ev_ite : dIte ta a b lv ρ S = (ta lv ρ S).bind (itK a b lv ρ) := id rfl
@[simp] theorem ev_yes : tYesD lv ρ S = .ok true S := id rfl
def anV (b : Den) (lv : Lv) (ρ : Dv.Env) : D → Sto → R D
  | .bl c, S => if c = true then b lv ρ S else .ok (.bl false) S
  | _, _ => .no
def orV (b : Den) (lv : Lv) (ρ : Dv.Env) : D → Sto → R D
  | .bl c, S => if c = true then .ok (.bl true) S else b lv ρ S
  | _, _ => .no
@[simp] theorem anV_bl {c : Bool} : anV b lv ρ (.bl c) S = if c = true then b lv ρ S else .ok (.bl false) S := id rfl
@[simp] theorem orV_bl {c : Bool} : orV b lv ρ (.bl c) S = if c = true then .ok (.bl true) S else b lv ρ S := id rfl
@[simp] theorem ev_andV : dAndV a b lv ρ S = (a lv ρ S).bind (anV b lv ρ) := by
  unfold dAndV
  congr 1
  funext x S1
  cases x <;> first | rfl | (rename_i c; cases c <;> rfl)
@[simp] theorem ev_orV : dOrV a b lv ρ S = (a lv ρ S).bind (orV b lv ρ) := by
  unfold dOrV
  congr 1
  funext x S1
  cases x <;> first | rfl | (rename_i c; cases c <;> rfl)
def chK (k : DenK) (lv : Lv) (ρ : Dv.Env) : D → Sto → R D := fun x S => k x lv ρ S
@[simp] theorem chK_ap {k : DenK} {lv : Lv} {ρ : Dv.Env} {x : D} {S : Sto} : chK k lv ρ x S = k x lv ρ S := id rfl
@[simp] theorem ev_chain {k : DenK} : dChain a k lv ρ S = (a lv ρ S).bind (chK k lv ρ) := id rfl
@[simp] theorem ev_last {o : Op2} {x : D} : kLast o b x lv ρ S = (b lv ρ S).bind (opK2 o x) := id rfl
def lkV (k : DenK) (y : D) (lv : Lv) (ρ : Dv.Env) : D → Sto → R D
  | .bl c, S => if c = true then k y lv ρ S else .ok (.bl false) S
  | _, _ => .no
@[simp] theorem lkV_bl {k : DenK} {y : D} {c : Bool} : lkV k y lv ρ (.bl c) S = if c = true then k y lv ρ S else .ok (.bl false) S := id rfl
def lkK (o : Op2) (k : DenK) (x : D) (lv : Lv) (ρ : Dv.Env) : D → Sto → R D := fun y S => (quiet (o x y S)).bind (lkV k y lv ρ)
@[simp] theorem lkK_ap {o : Op2} {k : DenK} {x : D} {lv : Lv} {ρ : Dv.Env} {y : D} {S : Sto} : lkK o k x lv ρ y S = (quiet (o x y S)).bind (lkV k y lv ρ) := id rfl
@[simp] theorem ev_link {o : Op2} {x : D} {k : DenK} : kLink o b k x lv ρ S = (b lv ρ S).bind (lkK o k x lv ρ) := by
  unfold kLink
  congr 1
  funext y S1
  unfold lkK
  congr 1
  funext z S2
  cases z <;> first | rfl | (rename_i c; cases c <;> rfl)
def intR : D → Sto → R (Option Int)
  | .int i, S => .ok (some i) S
  | _, _ => .no
@[simp] theorem intR_i {i : Int} : intR (.int i) S = .ok (some i) S := id rfl
@[simp] theorem ev_po0 : poDen none lv ρ S = .ok none S := id rfl
@[simp] theorem ev_po1 : poDen (some a) lv ρ S = (a lv ρ S).bind intR := by
  unfold poDen
  dsimp only
  congr 1
  funext x S1
  cases x <;> rfl
def slK3 (x : D) (l : Option Int) : Option Int → Sto → R D := fun h S => quiet (slD x l h S)
@[simp] theorem slK3_ap {x : D} {l : Option Int} {h : Option Int} {S : Sto} : slK3 x l h S = quiet (slD x l h S) := id rfl
def slK2 (hi : Option Den) (lv : Lv) (ρ : Dv.Env) (x : D) : Option Int → Sto → R D := fun l S => (poDen hi lv ρ S).bind (slK3 x l)
@[simp] theorem slK2_ap {hi : Option Den} {lv : Lv} {ρ : Dv.Env} {x : D} {l : Option Int} {S : Sto} : slK2 hi lv ρ x l S = (poDen hi lv ρ S).bind (slK3 x l) := id rfl
def slK1 (lo : Option Den) (hi : Option Den) (lv : Lv) (ρ : Dv.Env) : D → Sto → R D := fun x S => (poDen lo lv ρ S).bind (slK2 hi lv ρ x)
@[simp] theorem slK1_ap {lo : Option Den} {hi : Option Den} {lv : Lv} {ρ : Dv.Env} {x : D} {S : Sto} : slK1 lo hi lv ρ x S = (poDen lo lv ρ S).bind (slK2 hi lv ρ x) := id rfl
@[simp] theorem ev_sl {lo hi : Option Den} : dSl a lo hi lv ρ S = (a lv ρ S).bind (slK1 lo hi lv ρ) := id rfl
/-! statements -/
variable {s1 s2 : DenS}
def seqR (s2 : DenS) (lv : Lv) : Fl → Sto → R Fl
  | .nx ρ, S => s2 lv ρ S
  | g, S => .ok g S
@[simp] theorem seqR_nx : seqR s2 lv (.nx ρ) S = s2 lv ρ S := id rfl
@[simp] theorem seqR_rt {d : D} : seqR s2 lv (.rt d) S = .ok (.rt d) S := id rfl
@[simp] theorem seqR_bk : seqR s2 lv (.bk ρ) S = .ok (.bk ρ) S := id rfl
@[simp] theorem seqR_ct : seqR s2 lv (.ct ρ) S = .ok (.ct ρ) S := id rfl
@[simp] theorem seqR_xc {c : Nat} : seqR s2 lv (.xc c ρ) S = .ok (.xc c ρ) S := id rfl
@[simp] theorem ev_seq : sSeq s1 s2 lv ρ S = (s1 lv ρ S).bind (seqR s2 lv) := by
  unfold sSeq
  congr 1
  funext f S1
  cases f <;> rfl
@[simp] theorem ev_snil : sNil lv ρ S = .ok (.nx ρ) S := id rfl
def retK : D → Sto → R Fl := fun d S => .ok (.rt d) S
@[simp] theorem retK_ap {d : D} : retK d S = .ok (.rt d) S := id rfl
@[simp] theorem ev_ret : sRet a lv ρ S = (a lv ρ S).bindS ρ retK := id rfl
@[simp] theorem ev_retN : sRetN lv ρ S = .ok (.rt .non) S := id rfl
def expK (ρ : Dv.Env) : D → Sto → R Fl := fun _ S => .ok (.nx ρ) S
@[simp] theorem expK_ap {d : D} : expK ρ d S = .ok (.nx ρ) S := id rfl
@[simp] theorem ev_expr : sExpr a lv ρ S = (a lv ρ S).bindS ρ (expK ρ) := id rfl
@[simp] theorem ev_brk : sBrk lv ρ S = .ok (.bk ρ) S := id rfl
@[simp] theorem ev_cnt : sCnt lv ρ S = .ok (.ct ρ) S := id rfl
def ifK (s1 : DenS) (s2 : DenS) (lv : Lv) (ρ : Dv.Env) : Bool → Sto → R Fl := fun x S => if x = true then s1 lv ρ S else s2 lv ρ S
@[simp] theorem ifK_ap {s1 : DenS} {s2 : DenS} {lv : Lv} {ρ : Dv.Env} {x : Bool} {S : Sto} : ifK s1 s2 lv ρ x S = if x = true then s1 lv ρ S else s2 lv ρ S := id rfl
@[simp] theorem ev_if : sIf ta s1 s2 lv ρ S = (ta lv ρ S).bindS ρ (ifK s1 s2 lv ρ) := id rfl
def envR : Option Dv.Env → Sto → R Fl
  | some ρ, S => .ok (.nx ρ) S
  | none, _ => .no
@[simp] theorem envR_s : envR (some ρ) S = .ok (.nx ρ) S := id rfl
def asK (t : Tg) (ρ : Dv.Env) : D → Sto → R Fl := fun d S => envR (tgD t d ρ) S
@[simp] theorem asK_ap {t : Tg} {ρ : Dv.Env} {d : D} {S : Sto} : asK t ρ d S = envR (tgD t d ρ) S := id rfl
@[simp] theorem ev_asg {t : Tg} : sAsg t a lv ρ S = (a lv ρ S).bindS ρ (asK t ρ) := by
  unfold sAsg
  congr 1
  funext d S1
  unfold asK
  cases tgD t d ρ <;> rfl
@[simp] theorem tg_nm {i : Nat} {d : D} : tgD (.nm i) d ρ = some (ρ.set i (some d)) := id rfl
theorem tg_tp {is : List Nat} {ds : List D} (h : ds.length = is.length) : tgD (.tp is) (.tup ds) ρ = some (setAll is ds ρ) := by
  show (if ds.length = is.length then _ else _) = _
  rw [if_pos h]
@[simp] theorem tg_tp2 {i j : Nat} {d e : D} : tgD (.tp [i, j]) (.tup [d, e]) ρ = some ((ρ.set i (some d)).set j (some e)) := id rfl
def suK4 (ρ : Dv.Env) : Unit → Sto → R Fl := fun _ S => .ok (.nx ρ) S
@[simp] theorem suK4_ap {u : Unit} : suK4 ρ u S = .ok (.nx ρ) S := id rfl
def suK3 (v : D) (x : D) (ρ : Dv.Env) : D → Sto → R Fl := fun y S => (setD x y v S).bindS ρ (suK4 ρ)
@[simp] theorem suK3_ap {v : D} {x : D} {ρ : Dv.Env} {y : D} {S : Sto} : suK3 v x ρ y S = (setD x y v S).bindS ρ (suK4 ρ) := id rfl
def suK2 (i : Den) (lv : Lv) (ρ : Dv.Env) (v : D) : D → Sto → R Fl := fun x S => (i lv ρ S).bindS ρ (suK3 v x ρ)
@[simp] theorem suK2_ap {i : Den} {lv : Lv} {ρ : Dv.Env} {v : D} {x : D} {S : Sto} : suK2 i lv ρ v x S = (i lv ρ S).bindS ρ (suK3 v x ρ) := id rfl
def suK1 (o : Den) (i : Den) (lv : Lv) (ρ : Dv.Env) : D → Sto → R Fl := fun v S => (o lv ρ S).bindS ρ (suK2 i lv ρ v)
@[simp] theorem suK1_ap {o : Den} {i : Den} {lv : Lv} {ρ : Dv.Env} {v : D} {S : Sto} : suK1 o i lv ρ v S = (o lv ρ S).bindS ρ (suK2 i lv ρ v) := id rfl
@[simp] theorem ev_sub {o i : Den} : sSub o i a lv ρ S = (a lv ρ S).bindS ρ (suK1 o i lv ρ) := id rfl
noncomputable def foK (t : Tg) (s1 : DenS) (lv : Lv) (ρ : Dv.Env) : Src → Sto → R Fl := fun src S => forGo src.chk t (s1 lv) src.items ρ S
@[simp] theorem foK_ap {t : Tg} {src : Src} : foK t s1 lv ρ src S = forGo src.chk t (s1 lv) src.items ρ S := id rfl
@[simp] theorem ev_for {di : DenI} {t : Tg} : sFor di t s1 lv ρ S = (di lv ρ S).bindS ρ (foK t s1 lv ρ) := id rfl
def rngR (a : List D) (S : Sto) : R Src := match a with
  | [.int j] => if -4611686018427387904 ≤ j ∧ j < 4611686018427387904 then .ok (.rng 0 j.toNat) S else .no
  | [.int i, .int j] => if -4611686018427387904 ≤ i ∧ i < 4611686018427387904 ∧ -4611686018427387904 ≤ j ∧ j < 4611686018427387904 then .ok (.rng i (j - i).toNat) S else .no
  | _ => .no
@[simp] theorem rngR_1 {j : Int} : rngR [.int j] S = if -4611686018427387904 ≤ j ∧ j < 4611686018427387904 then .ok (.rng 0 j.toNat) S else .no := id rfl
@[simp] theorem rngR_2 {i j : Int} : rngR [.int i, .int j] S = if -4611686018427387904 ≤ i ∧ i < 4611686018427387904 ∧ -4611686018427387904 ≤ j ∧ j < 4611686018427387904 then .ok (.rng i (j - i).toNat) S else .no := id rfl
@[simp] theorem ev_rng3 {ra : DenA} : iRange3 ra lv ρ S = (ra lv ρ S).bind rdnR := id rfl
@[simp] theorem rdnR_3 {i j c : Int} : rdnR [.int i, .int j, .int c] S = if c = -1 ∧ -4611686018427387904 ≤ i ∧ i < 4611686018427387904 ∧ -4611686018427387904 ≤ j ∧ j < 4611686018427387904 then .ok (.rdn i (i - j).toNat) S else .no := id rfl
@[simp] theorem ev_rng1 {x : Den} : iRange1 (dCons x dNil) lv ρ S = (dCons x dNil lv ρ S).bind rngR := by
  unfold iRange1
  cases e : x lv ρ S with
  | ok d S1 =>
    have e2 : dCons x dNil lv ρ S = .ok [d] S1 := by show (x lv ρ S).bind _ = _; rw [e]; rfl
    rw [e2]
    cases d <;> rfl
  | ex c S1 =>
    have e2 : dCons x dNil lv ρ S = .ex c S1 := by show (x lv ρ S).bind _ = _; rw [e]; rfl
    rw [e2]; rfl
  | no =>
    have e2 : dCons x dNil lv ρ S = .no := by show (x lv ρ S).bind _ = _; rw [e]; rfl
    rw [e2]; rfl
@[simp] theorem ev_rng2 {x y : Den} : iRange2 (dCons x (dCons y dNil)) lv ρ S = (dCons x (dCons y dNil) lv ρ S).bind rngR := by
  unfold iRange2
  cases e : x lv ρ S with
  | ok d S1 =>
    cases e3 : y lv ρ S1 with
    | ok d2 S2 =>
      have e2 : dCons x (dCons y dNil) lv ρ S = .ok [d, d2] S2 := by
        show (x lv ρ S).bind _ = _
        rw [e]
        show ((y lv ρ S1).bind _).bind _ = _
        rw [e3]; rfl
      rw [e2]
      cases d <;> cases d2 <;> rfl
    | ex c S2 =>
      have e2 : dCons x (dCons y dNil) lv ρ S = .ex c S2 := by
        show (x lv ρ S).bind _ = _
        rw [e]
        show ((y lv ρ S1).bind _).bind _ = _
        rw [e3]; rfl
      rw [e2]; rfl
    | no =>
      have e2 : dCons x (dCons y dNil) lv ρ S = .no := by
        show (x lv ρ S).bind _ = _
        rw [e]
        show ((y lv ρ S1).bind _).bind _ = _
        rw [e3]; rfl
      rw [e2]; rfl
  | ex c S1 =>
    have e2 : dCons x (dCons y dNil) lv ρ S = .ex c S1 := by show (x lv ρ S).bind _ = _; rw [e]; rfl
    rw [e2]; rfl
  | no =>
    have e2 : dCons x (dCons y dNil) lv ρ S = .no := by show (x lv ρ S).bind _ = _; rw [e]; rfl
    rw [e2]; rfl
def valR (d : D) (S : Sto) : R Src := match d with
  | .tup xs => .ok (.tup xs) S
  | .ref i => match S[i]? with
    | some (.lst w xs) => .ok (.lst i w xs) S
    | _ => .no
  | _ => .no
@[simp] theorem valR_t {xs : List D} : valR (.tup xs) S = .ok (.tup xs) S := id rfl
@[simp] theorem ev_val : iVal a lv ρ S = (a lv ρ S).bind valR := by
  unfold iVal
  rfl
noncomputable def lcK (t : Tg) (ta : DenT) (a : Den) (vs : List Nat) (lv : Lv) (ρ : Dv.Env) : Src → Sto → R D := fun src S => lcGo S.length src.chk t (ta lv) (a lv) (wipeE ρ vs) src.items (S ++ [.lst true []])
@[simp] theorem lcK_ap {t : Tg} {vs : List Nat} {src : Src} : lcK t ta a vs lv ρ src S = lcGo S.length src.chk t (ta lv) (a lv) (wipeE ρ vs) src.items (S ++ [.lst true []]) := id rfl
@[simp] theorem ev_lc {di : DenI} {t : Tg} {vs : List Nat} : dLc di t ta a vs lv ρ S = (di lv ρ S).bind (lcK t ta a vs lv ρ) := id rfl
noncomputable def abK (bb : Bool) (t : Tg) (ta : DenT) (a : Den) (vs : List Nat) (lv : Lv) (ρ : Dv.Env) : Src → Sto → R D := fun src S => abGo bb src.chk t (ta lv.dn) (a lv.dn) (wipeE ρ vs) src.items S
@[simp] theorem abK_ap {bb : Bool} {t : Tg} {vs : List Nat} {src : Src} : abK bb t ta a vs lv ρ src S = abGo bb src.chk t (ta lv.dn) (a lv.dn) (wipeE ρ vs) src.items S := id rfl
@[simp] theorem ev_ab {bb : Bool} {di : DenI} {t : Tg} {vs : List Nat} : dAb bb di t ta a vs lv ρ S = (di lv ρ S).bind (abK bb t ta a vs lv ρ) := id rfl
@[simp] theorem ev_dk0 : dDk0 lv ρ S = .ok (.ref S.length) (S ++ [.dk []]) := id rfl
def dkO (k : L2.Key) (y : D) (i : Nat) : Option O → Sto → R D
  | some (.dk []), S => .ok (.ref i) (S.set i (.dk [(k, y)]))
  | _, _ => .no
@[simp] theorem dkO_e {k : L2.Key} {y : D} {i : Nat} : dkO k y i (some (.dk [])) S = .ok (.ref i) (S.set i (.dk [(k, y)])) := id rfl
def dkK (k : L2.Key) (i : Nat) : D → Sto → R D := fun y S => dkO k y i S[i]? S
@[simp] theorem dkK_ap {k : L2.Key} {i : Nat} {y : D} {S : Sto} : dkK k i y S = dkO k y i S[i]? S := id rfl
@[simp] theorem ev_dk1 {k : L2.Key} : dDk1 k a lv ρ S = (a lv ρ (S ++ [.dk []])).bind (dkK k S.length) := by
  unfold dDk1
  congr 1
  funext y S1
  unfold dkK dkO
  cases S1[S.length]? with
  | none => rfl
  | some o =>
    cases o with
    | lst w xs => rfl
    | dk kvs => cases kvs <;> rfl
    | dt kvs => rfl
    | dn kvs => rfl
    | ob c fs => rfl
    | xc x j => rfl
/-! ### operations -/
@[simp] theorem add_i {i j : Int} : addD (.int i) (.int j) S = .ok (.int (i + j)) S := id rfl
@[simp] theorem add_t {i j : List D} : addD (.tup i) (.tup j) S = if i.length + j.length ≤ mx then .ok (.tup (i ++ j)) S else .no := id rfl
@[simp] theorem sub_i {i j : Int} : subD (.int i) (.int j) S = .ok (.int (i - j)) S := id rfl
@[simp] theorem mul_i {i j : Int} : mulD (.int i) (.int j) S = if (-18446744073709551616 < i ∧ i < 18446744073709551616) ∨ (-18446744073709551616 < j ∧ j < 18446744073709551616) then .ok (.int (i * j)) S else .no := id rfl
@[simp] theorem fdiv_i {i j : Int} : fdivD (.int i) (.int j) S = if 0 < j ∧ j < 1073741824 then .ok (.int (i / j)) S else .no := id rfl
@[simp] theorem mod_i {i j : Int} : modD (.int i) (.int j) S = if 0 < j then .ok (.int (i % j)) S else .no := id rfl
@[simp] theorem pow_i {i j : Int} : powD (.int i) (.int j) S = if 0 ≤ j ∧ j ≤ 1000000 ∧ i.natAbs < 18446744073709551616 then .ok (.int (i ^ j.toNat)) S else .no := id rfl
@[simp] theorem neg_i {i : Int} : negD (.int i) S = .ok (.int (-i)) S := id rfl
@[simp] theorem not_b {c : Bool} : notD (.bl c) S = .ok (.bl (!c)) S := id rfl
@[simp] theorem lt_i {i j : Int} : ltD (.int i) (.int j) S = .ok (.bl (decide (i < j))) S := id rfl
@[simp] theorem le_i {i j : Int} : leD (.int i) (.int j) S = .ok (.bl (decide (i ≤ j))) S := id rfl
@[simp] theorem gt_i {i j : Int} : gtD (.int i) (.int j) S = .ok (.bl (decide (j < i))) S := id rfl
@[simp] theorem ge_i {i j : Int} : geD (.int i) (.int j) S = .ok (.bl (decide (j ≤ i))) S := id rfl
@[simp] theorem eq_i {i j : Int} : eqD (.int i) (.int j) S = .ok (.bl (decide (i = j))) S := id rfl
@[simp] theorem ne_i {i j : Int} : neD (.int i) (.int j) S = .ok (.bl (!decide (i = j))) S := id rfl
@[simp] theorem ne_b {i j : Bool} : neD (.bl i) (.bl j) S = .ok (.bl (!decide (i = j))) S := id rfl
@[simp] theorem lt_p {i j k l : Int} : ltD (.tup [.int i, .int j]) (.tup [.int k, .int l]) S = .ok (.bl (HT.lexLt [i, j] [k, l])) S := id rfl
@[simp] theorem ix_t {xs : List D} {k : Int} : ixD (.tup xs) (.int k) S = optR (L2.atI xs k) S := by
  show (match L2.atI xs k with | some x => R.ok x S | none => .no) = _
  cases L2.atI xs k <;> rfl
theorem ix_r {i : Nat} {w : Bool} {xs : List D} {k : Int} (h : S[i]? = some (.lst w xs)) : ixD (.ref i) (.int k) S = optR (L2.atI xs k) S := by
  unfold ixD itemsD
  simp only [h]
  cases L2.atI xs k <;> rfl
@[simp] theorem at0 {x : D} {xs : List D} : L2.atI (x :: xs) 0 = some x := L2.atI_nat (j := 0) rfl
@[simp] theorem at1 {x y : D} {xs : List D} : L2.atI (x :: y :: xs) 1 = some y := L2.atI_nat (j := 1) rfl
/-- an index in range -/
theorem at_in {xs : List D} {k : Int} (h0 : 0 ≤ k) (h1 : k < xs.length) : L2.atI xs k = some (xs[k.toNat]'(by omega)) := by
  have e : ((k.toNat : Nat) : Int) = k := by omega
  have q := L2.atI_nat (xs := xs) (j := k.toNat) (List.getElem?_eq_getElem (by omega))
  rw [e] at q
  exact q
@[simp] theorem len_t {xs : List D} : lenD [.tup xs] S = .ok (.int xs.length) S := id rfl
theorem len_r {i : Nat} {w : Bool} {xs : List D} (h : S[i]? = some (.lst w xs)) : lenD [.ref i] S = .ok (.int xs.length) S := by
  unfold lenD itemsD
  simp only [h]
/-! things of the store: what stands there is looked up first -/
def ixO : Option O → Int → Sto → R D
  | some (.lst _ xs), k, S => optR (L2.atI xs k) S
  | _, _, _ => .no
@[simp] theorem ixO_l {w : Bool} {xs : List D} {k : Int} : ixO (some (.lst w xs)) k S = optR (L2.atI xs k) S := id rfl
@[simp] theorem ix_ref {i : Nat} {k : Int} : ixD (.ref i) (.int k) S = ixO S[i]? k S := by
  unfold ixD itemsD ixO
  dsimp only
  cases S[i]? with
  | none => rfl
  | some o =>
    cases o with
    | lst w xs => dsimp only; cases L2.atI xs k <;> rfl
    | dk kvs => rfl
    | dt kvs => rfl
    | dn kvs => rfl
    | ob c fs => rfl
    | xc x j => rfl
def lenO : Option O → Sto → R D
  | some (.lst _ xs), S => .ok (.int xs.length) S
  | _, _ => .no
@[simp] theorem lenO_l {w : Bool} {xs : List D} : lenO (some (.lst w xs)) S = .ok (.int xs.length) S := id rfl
@[simp] theorem len_ref {i : Nat} : lenD [.ref i] S = lenO S[i]? S := by
  unfold lenD itemsD lenO
  dsimp only
  cases S[i]? with
  | none => rfl
  | some o => cases o <;> rfl
def valO (i : Nat) : Option O → Sto → R Src
  | some (.lst w xs), S => .ok (.lst i w xs) S
  | _, _ => .no
@[simp] theorem valO_l {i : Nat} {w : Bool} {xs : List D} : valO i (some (.lst w xs)) S = .ok (.lst i w xs) S := id rfl
@[simp] theorem val_ref {i : Nat} : valR (.ref i) S = valO i S[i]? S := by
  unfold valR valO
  dsimp only
  cases S[i]? with
  | none => rfl
  | some o => cases o <;> rfl
def setO (i : Nat) : Option O → Int → D → Sto → R Unit
  | some (.lst true xs), k, v, S => match L2.ixN xs.length k with
    | some j => .ok () (S.set i (.lst true (xs.set j v)))
    | none => .no
  | _, _, _, _ => .no
@[simp] theorem set_ref {i : Nat} {k : Int} {v : D} : setD (.ref i) (.int k) v S = setO i S[i]? k v S := by
  unfold setD setO
  dsimp only
  cases S[i]? with
  | none => rfl
  | some o =>
    cases o with
    | lst w xs => cases w <;> rfl
    | dk kvs => rfl
    | dt kvs => rfl
    | dn kvs => rfl
    | ob c fs => rfl
    | xc x j => rfl
@[simp] theorem setO_0 {i : Nat} {x v : D} {xs : List D} : setO i (some (.lst true (x :: xs))) 0 v S = .ok () (S.set i (.lst true (v :: xs))) := by
  unfold setO
  have e : L2.ixN (x :: xs).length 0 = some 0 := by
    unfold L2.ixN
    rw [if_pos (by omega), if_pos (by rw [List.length_cons]; omega)]
    rfl
  simp only [e]
  rfl
@[simp] theorem setO_1 {i : Nat} {x y v : D} {xs : List D} : setO i (some (.lst true (x :: y :: xs))) 1 v S = .ok () (S.set i (.lst true (x :: v :: xs))) := by
  unfold setO
  have e : L2.ixN (x :: y :: xs).length 1 = some 1 := by
    unfold L2.ixN
    rw [if_pos (by omega), if_pos (by rw [List.length_cons, List.length_cons]; omega)]
    rfl
  simp only [e]
  rfl
def isLo : Option O → Bool
  | some (.lst _ _) => true
  | _ => false
@[simp] theorem isLo_l {w : Bool} {xs : List D} : isLo (some (.lst w xs)) = true := id rfl
@[simp] theorem isL_ref {i : Nat} : isL (.ref i) S = isLo S[i]? := by
  unfold isL isLo
  cases h : S[i]? with
  | none => simp [h]
  | some o => cases o <;> simp [h]
def appO (i : Nat) (y : D) : Option O → Sto → R D
  | some (.lst true xs), S => if xs.length < mx then .ok .non (S.set i (.lst true (xs ++ [y]))) else .no
  | _, _ => .no
@[simp] theorem appO_l {i : Nat} {y : D} {xs : List D} : appO i y (some (.lst true xs)) S = if xs.length < mx then .ok .non (S.set i (.lst true (xs ++ [y]))) else .no := id rfl
@[simp] theorem app_ref {i : Nat} {y : D} : appendD (.ref i) [y] S = appO i y S[i]? S := by
  unfold appendD appO
  dsimp only
  cases S[i]? with
  | none => rfl
  | some o =>
    cases o with
    | lst w xs => cases w <;> rfl
    | dk kvs => rfl
    | dt kvs => rfl
    | dn kvs => rfl
    | ob c fs => rfl
    | xc x j => rfl
def popO (i : Nat) (k : Int) : Option O → Sto → R D
  | some (.lst true xs), S => if 0 ≤ k ∧ k < 1000000 then (match xs[k.toNat]? with
    | some y => .ok y (S.set i (.lst true (xs.eraseIdx k.toNat)))
    | none => .no) else .no
  | _, _ => .no
@[simp] theorem pop_ref {i : Nat} {k : Int} : popAtD (.ref i) [.int k] S = popO i k S[i]? S := by
  unfold popAtD popO
  dsimp only
  cases S[i]? with
  | none => rfl
  | some o =>
    cases o with
    | lst w xs => cases w <;> rfl
    | dk kvs => rfl
    | dt kvs => rfl
    | dn kvs => rfl
    | ob c fs => rfl
    | xc x j => rfl
theorem popO_in {i : Nat} {k : Int} {xs : List D} (h0 : 0 ≤ k) (h1 : k < xs.length) (h2 : xs.length ≤ 1000000) : popO i k (some (.lst true xs)) S = .ok (xs[k.toNat]'(by omega)) (S.set i (.lst true (xs.eraseIdx k.toNat))) := by
  have e : xs[k.toNat]? = some (xs[k.toNat]'(by omega)) := List.getElem?_eq_getElem (by omega)
  unfold popO
  simp only [e]
  rw [if_pos ⟨h0, by omega⟩]
def extO (i : Nat) : Option O → Option O → Sto → R D
  | some (.lst true xs), some (.lst true ys), S => if xs.length + ys.length ≤ mx then .ok .non (S.set i (.lst true (xs ++ ys))) else .no
  | _, _, _ => .no
@[simp] theorem extO_l {i : Nat} {xs ys : List D} : extO i (some (.lst true xs)) (some (.lst true ys)) S = if xs.length + ys.length ≤ mx then .ok .non (S.set i (.lst true (xs ++ ys))) else .no := id rfl
@[simp] theorem ext_ref {i j : Nat} : extendD (.ref i) [.ref j] S = extO i S[i]? S[j]? S := by
  unfold extendD extO
  dsimp only
  cases S[i]? with
  | none => rfl
  | some o =>
    cases o with
    | lst w xs =>
      cases w with
      | false => rfl
      | true =>
        cases S[j]? with
        | none => rfl
        | some o2 =>
          cases o2 with
          | lst w2 ys => cases w2 <;> rfl
          | dk kvs => rfl
          | dt kvs => rfl
          | dn kvs => rfl
          | ob c fs => rfl
          | xc x j => rfl
    | dk kvs => rfl
    | dt kvs => rfl
    | dn kvs => rfl
    | ob c fs => rfl
    | xc x j => rfl
def catO : Option O → Option O → Sto → R D
  | some (.lst true xs), some (.lst true ys), S => if xs.length + ys.length ≤ mx then .ok (.ref S.length) (S ++ [.lst true (xs ++ ys)]) else .no
  | _, _, _ => .no
@[simp] theorem catO_l {xs ys : List D} : catO (some (.lst true xs)) (some (.lst true ys)) S = if xs.length + ys.length ≤ mx then .ok (.ref S.length) (S ++ [.lst true (xs ++ ys)]) else .no := id rfl
@[simp] theorem cat_ref {i j : Nat} : addD (.ref i) (.ref j) S = catO S[i]? S[j]? S := by
  unfold addD catO
  dsimp only
  cases S[i]? with
  | none => rfl
  | some o =>
    cases o with
    | lst w xs =>
      cases w with
      | false => rfl
      | true =>
        cases S[j]? with
        | none => rfl
        | some o2 =>
          cases o2 with
          | lst w2 ys => cases w2 <;> rfl
          | dk kvs => rfl
          | dt kvs => rfl
          | dn kvs => rfl
          | ob c fs => rfl
          | xc x j => rfl
    | dk kvs => rfl
    | dt kvs => rfl
    | dn kvs => rfl
    | ob c fs => rfl
    | xc x j => rfl
def tupO : Option O → Sto → R D
  | some (.lst _ xs), S => if xs.length ≤ mx then .ok (.tup xs) S else .no
  | _, _ => .no
@[simp] theorem tupO_l {w : Bool} {xs : List D} : tupO (some (.lst w xs)) S = if xs.length ≤ mx then .ok (.tup xs) S else .no := id rfl
@[simp] theorem tuple_ref {i : Nat} : tupleD [.ref i] S = tupO S[i]? S := by
  unfold tupleD itemsD tupO
  dsimp only
  cases S[i]? with
  | none => rfl
  | some o => cases o <;> rfl
@[simp] theorem list_tup {xs : List D} : listD [.tup xs] S = if xs.length ≤ mx then .ok (.ref S.length) (S ++ [.lst true xs]) else .no := id rfl
def srtO : Option O → Sto → R D
  | some (.lst _ xs), S => if xs.all isPr = true ∧ xs.length ≤ mx then .ok (.ref S.length) (S ++ [.lst true (isort ltK xs)]) else .no
  | _, _ => .no
@[simp] theorem srtO_l {w : Bool} {xs : List D} : srtO (some (.lst w xs)) S = if xs.all isPr = true ∧ xs.length ≤ mx then .ok (.ref S.length) (S ++ [.lst true (isort ltK xs)]) else .no := id rfl
@[simp] theorem sorted_ref {i : Nat} : sortedD [.ref i] S = srtO S[i]? S := by
  unfold sortedD itemsD srtO
  dsimp only
  cases S[i]? with
  | none => rfl
  | some o =>
    cases o with
    | lst w xs =>
      show (if xs.all isPr = true ∧ xs.length ≤ mx ∧ isRf (D.ref i) = true then _ else _) = if xs.all isPr = true ∧ xs.length ≤ mx then _ else _
      by_cases h : xs.all isPr = true ∧ xs.length ≤ mx
      · rw [if_pos h, if_pos (show _ ∧ _ ∧ isRf (D.ref i) = true from ⟨h.1, h.2, rfl⟩)]
      · rw [if_neg h, if_neg (fun q : xs.all isPr = true ∧ xs.length ≤ mx ∧ isRf (D.ref i) = true => h ⟨q.1, q.2.1⟩)]
    | dk kvs => rfl
    | dt kvs => rfl
    | dn kvs => rfl
    | ob c fs => rfl
    | xc x j => rfl
def cutO (lo hi : Option Int) : Option O → Sto → R D
  | some (.lst _ xs), S => if xs.length ≤ mx then .ok (.ref S.length) (S ++ [.lst true (cutD xs lo hi)]) else .no
  | _, _ => .no
@[simp] theorem cutO_l {w : Bool} {lo hi : Option Int} {xs : List D} : cutO lo hi (some (.lst w xs)) S = if xs.length ≤ mx then .ok (.ref S.length) (S ++ [.lst true (cutD xs lo hi)]) else .no := id rfl
@[simp] theorem sl_ref {i : Nat} {lo hi : Option Int} : slD (.ref i) lo hi S = cutO lo hi S[i]? S := by
  unfold slD itemsD cutO
  dsimp only
  cases S[i]? with
  | none => rfl
  | some o => cases o <;> rfl
@[simp] theorem sl_tup {xs : List D} {lo hi : Option Int} : slD (.tup xs) lo hi S = if xs.length ≤ mx then .ok (.tup (cutD xs lo hi)) S else .no := id rfl
@[simp] theorem rev_tup {xs : List D} : revD (.tup xs) S = .ok (.tup xs.reverse) S := id rfl
/-- one of the items -/
theorem opt_in {xs : List D} {k : Int} {Q : D → Sto → Prop} {W : Nat → Sto → Prop} (h0 : 0 ≤ k) (h1 : k < xs.length) (h : ∀ x ∈ xs, Q x S) : (optR (L2.atI xs k) S).wp Q W := by
  rw [at_in h0 h1]
  exact h _ (List.getElem_mem _)
@[simp] theorem abs_i {i : Int} : absD [.int i] S = .ok (.int (if i < 0 then -i else i)) S := id rfl
@[simp] theorem min_i {i j : Int} : minD [.int i, .int j] S = .ok (.int (if j < i then j else i)) S := id rfl
@[simp] theorem max_i {i j : Int} : maxD [.int i, .int j] S = .ok (.int (if j > i then j else i)) S := id rfl
@[simp] theorem tru_b {c : Bool} : truD (.bl c) S = some c := id rfl
@[simp] theorem start2 {n : Nat} {ds : List D} : startE n ds = ds.map some ++ List.replicate (n - ds.length) none := id rfl
end
end Dv

namespace Dv
open PySem
noncomputable def wholeF : DenS := (sRet (dAndV (dIsi .int (dVar 0)) (dUn notD (dIsi .bl (dVar 0)))))
noncomputable def placeF (iW : Nat) : DenS := (sRet (dAndV (dCallF iW 1 (dCons (dVar 1) dNil)) (dChain (dC (.int 0)) (kLink leD (dVar 1) (kLast ltD (dVar 0))))))
noncomputable def pairF (iP : Nat) : DenS := (sSeq (sIf (dOrT (dNotT (dTru (dIsi .tup (dVar 1)))) (dBl (dOp neD (dCl lenD (dCons (dVar 1) dNil)) (dC (.int 2))))) (sRet (dC (.bl false))) sNil)
    (sRet (dAndV (dCallF iP 2 (dCons (dVar 0) (dCons (dOp ixD (dVar 1) (dC (.int 0))) dNil))) (dAndV (dCallF iP 2 (dCons (dVar 0) (dCons (dOp ixD (dVar 1) (dC (.int 1))) dNil))) (dOp neD (dOp ixD (dVar 1) (dC (.int 0))) (dOp ixD (dVar 1) (dC (.int 1))))))))
noncomputable def risingF : DenS := (sRet (dAb false (iRange1 (dCons (dOp subD (dCl lenD (dCons (dVar 0) dNil)) (dC (.int 1))) dNil)) (.nm 1) tYesD (dOp ltD (dOp ixD (dVar 0) (dVar 1)) (dOp ixD (dVar 0) (dOp addD (dVar 1) (dC (.int 1))))) [1]))
noncomputable def penF : DenS := (sSeq (sAsg (.nm 2) (dOp addD (dOp mulD (dC (.int 30011)) (dVar 1)) (dC (.int 5))))
    (sSeq (sIf (dBl (dOp gtD (dCl lenD (dCons (dVar 0) dNil)) (dC (.int 0)))) (sAsg (.nm 2) (dOp addD (dOp ixD (dVar 0) (dOp modD (dVar 1) (dCl lenD (dCons (dVar 0) dNil)))) (dOp mulD (dC (.int 52009)) (dOp fdivD (dVar 1) (dCl lenD (dCons (dVar 0) dNil)))))) sNil)
    (sSeq (sAsg (.nm 3) (dC (.int 0)))
    (sSeq (sIf (dBl (dOp geD (dCl absD (dCons (dVar 2) dNil)) (dOp powD (dC (.int 10)) (dC (.int 18))))) (sAsg (.nm 3) (dCl absD (dCons (dVar 2) dNil))) sNil)
    (sRet (dLst (dCons (dVar 3) (dCons (dOp modD (dOp addD (dOp addD (dOp mulD (dOp modD (dVar 2) (dC (.int 2147483587))) (dC (.int 39373))) (dOp mulD (dC (.int 28657)) (dVar 1))) (dC (.int 3))) (dC (.int 2147483629))) dNil))))))))
noncomputable def takeF : DenS := (sSeq (sIf (dBl (dOp gtD (dOp ixD (dVar 0) (dC (.int 0))) (dC (.int 0)))) (sSeq (sAsg (.nm 2) (dOp modD (dOp ixD (dVar 0) (dC (.int 0))) (dVar 1)))
    (sSeq (sSub (dVar 0) (dC (.int 0)) (dOp fdivD (dOp ixD (dVar 0) (dC (.int 0))) (dVar 1)))
    (sRet (dVar 2)))) sNil)
    (sSeq (sAsg (.nm 3) (dOp modD (dOp addD (dOp mulD (dOp ixD (dVar 0) (dC (.int 1))) (dC (.int 48271))) (dC (.int 17))) (dC (.int 2147483647))))
    (sSeq (sSub (dVar 0) (dC (.int 1)) (dVar 3))
    (sRet (dOp modD (dOp fdivD (dOp modD (dOp addD (dOp mulD (dVar 3) (dOp addD (dOp modD (dVar 3) (dC (.int 65519))) (dC (.int 5)))) (dOp fdivD (dVar 3) (dC (.int 65519)))) (dC (.int 2147483579))) (dC (.int 64))) (dVar 1))))))
noncomputable def frameF (iT : Nat) : DenS := (sSeq (sAsg (.nm 1) (dOp addD (dC (.int 1)) (dCallF iT 2 (dCons (dVar 0) (dCons (dC (.int 8)) dNil)))))
    (sSeq (sAsg (.nm 2) (dLst dNil))
    (sSeq (sFor (iRange1 (dCons (dVar 1) dNil)) (.nm 3) (sAsg (.nm 2) (dOp addD (dVar 2) (dLc (iRange1 (dCons (dVar 3) dNil)) (.nm 6) tYesD (dTup (dCons (dVar 6) (dCons (dVar 3) dNil))) [6]))))
    (sSeq (sAsg (.nm 4) (dLst dNil))
    (sSeq (sFor (iRange1 (dCons (dCl minD (dCons (dCallF iT 2 (dCons (dVar 0) (dCons (dC (.int 8)) dNil))) (dCons (dCl lenD (dCons (dVar 2) dNil)) dNil))) dNil)) (.nm 5) (sExpr (dMt appendD (dVar 4) (dCons (dMt popAtD (dVar 2) (dCons (dCallF iT 2 (dCons (dVar 0) (dCons (dCl lenD (dCons (dVar 2) dNil)) dNil))) dNil)) dNil))))
    (sRet (dTup (dCons (dVar 1) (dCons (dCl tupleD (dCons (dCl sortedD (dCons (dVar 4) dNil)) dNil)) dNil)))))))))
/-- a whole number -/
def isWh : D → Bool
  | .int _ => true
  | _ => false
def isPl (n : Int) : D → Bool
  | .int i => decide (0 ≤ i ∧ i < n)
  | _ => false
def isPa (n : Int) : D → Bool
  | .tup [.int i, .int j] => decide (0 ≤ i ∧ i < n ∧ 0 ≤ j ∧ j < n ∧ i ≠ j)
  | _ => false
section
variable {bs : Bodies} {iW iP iR iT m : Nat} {S : Sto}
theorem whole_eq (hW : bs[iW]? = some (wholeF, 1)) (hm : 2 ≤ m) (d : D) : Phi bs m 0 iW [d] S = .ok (.bl (isWh d)) S := by
  refine R.eq_of (wpP hm hW ?_)
  cases d <;> simp [wholeF, isWh]
theorem place_eq (hW : bs[iW]? = some (wholeF, 1)) (hP : bs[iP]? = some (placeF iW, 2)) (hm : 3 ≤ m) (n : Int) (d : D) : Phi bs m 0 iP [.int n, d] S = .ok (.bl (isPl n d)) S := by
  refine R.eq_of (wpP (by omega) hP ?_)
  have hw := fun d => whole_eq (S := S) hW (show 2 ≤ m - 1 by omega) d
  cases d with
  | int i =>
    simp [placeF, hw, isWh, isPl]
    by_cases h : 0 ≤ i <;> simp [h]
    omega
  | _ => simp [placeF, hw, isWh, isPl]
theorem pair_eq {iQ : Nat} (hW : bs[iW]? = some (wholeF, 1)) (hP : bs[iP]? = some (placeF iW, 2)) (hQ : bs[iQ]? = some (pairF iP, 2)) (hm : 4 ≤ m) (n : Int) (d : D) : Phi bs m 0 iQ [.int n, d] S = .ok (.bl (isPa n d)) S := by
  refine R.eq_of (wpP (by omega) hQ ?_)
  have hp := fun d => place_eq (S := S) hW hP (show 3 ≤ m - 1 by omega) n d
  cases d with
  | tup xs =>
    match xs with
    | [] => simp [pairF, isPa, isTp]
    | [x] => simp [pairF, isPa, isTp]
    | [x, y] =>
      simp [pairF, hp, isTp]
      cases x <;> cases y <;> simp [isPl, isPa]
      exact ⟨fun h1 h2 => ⟨fun h3 h4 => by simp [h1, h2, h3, h4], fun h => by intros; omega⟩, fun h => by intros; omega⟩
    | x :: y :: z :: r =>
      simp [pairF, isPa, isTp]
      intro h
      omega
  | _ => simp [pairF, isTp, isPa]

/-! rising -/
def prD (p : Int × Int) : D := .tup [.int p.1, .int p.2]
def ltP (p q : Int × Int) : Bool := HT.lexLt [p.1, p.2] [q.1, q.2]
def risB : List (Int × Int) → Bool
  | [] => true
  | [_] => true
  | p :: q :: r => ltP p q && risB (q :: r)
theorem ltP_iff {p q : Int × Int} : ltP p q = true ↔ p.1 < q.1 ∨ p.1 = q.1 ∧ p.2 < q.2 := by
  unfold ltP
  rw [HT.lexLt_cons, HT.lexLt_cons, HT.lexLt_nil_nil]
  by_cases h : p.1 = q.1
  · rw [if_pos h]
    by_cases h2 : p.2 = q.2
    · rw [if_pos h2]
      simp
      omega
    · rw [if_neg h2]
      simp
      omega
  · rw [if_neg h]
    simp
    omega
theorem ab_all {chk : Sto → Prop} {t : Tg} {cond : Env → Sto → R Bool} {elt : Env → Sto → R D} {ρ : Env} {S : Sto} {p : D → Bool} (hc : chk S) : ∀ {xs : List D}, (∀ x ∈ xs, ∃ ρ1, tgD t x ρ = some ρ1 ∧ cond ρ1 S = .ok true S ∧ elt ρ1 S = .ok (.bl (p x)) S) →
    abGo false chk t cond elt ρ xs S = .ok (.bl (xs.all p)) S
  | [], _ => by
    unfold abGo
    rw [if_pos hc]
    rfl
  | x :: xs, h => by
    obtain ⟨ρ1, h1, h2, h3⟩ := h x List.mem_cons_self
    unfold abGo
    rw [if_pos hc]
    simp only [h1, h2, h3, quiet_ok, R.bind_ok, if_true]
    rw [List.all_cons]
    cases hp : p x with
    | false => rfl
    | true =>
      rw [if_neg (by decide), Bool.true_and]
      exact ab_all hc fun y hy => h y (List.mem_cons_of_mem _ hy)
theorem ris_range : ∀ ps : List (Int × Int), (List.range (ps.length - 1)).all (fun k => ltP (ps.getD k (0, 0)) (ps.getD (k + 1) (0, 0))) = risB ps
  | [] => rfl
  | [_] => rfl
  | p :: q :: r => by
    show (List.range (r.length + 1)).all _ = _
    rw [List.range_succ_eq_map, List.all_cons, List.all_map]
    have ih := ris_range (q :: r)
    show (ltP p q && (List.range r.length).all ((fun k => ltP ((p :: q :: r).getD k (0, 0)) ((p :: q :: r).getD (k + 1) (0, 0))) ∘ Nat.succ)) = (ltP p q && risB (q :: r))
    rw [← ih]
    rfl
theorem at_pr {ps : List (Int × Int)} {k : Nat} (h : k < ps.length) : L2.atI (ps.map prD) (k : Int) = some (prD (ps.getD k (0, 0))) := by
  refine L2.atI_nat ?_
  rw [List.getElem?_map, List.getElem?_eq_getElem h, List.getD_eq_getElem?_getD, List.getElem?_eq_getElem h]
  rfl
theorem rising_eq (hR : bs[iR]? = some (risingF, 2)) (hm : 2 ≤ m) (ps : List (Int × Int)) (hl : ps.length ≤ 1000000) : Phi bs m 0 iR [.tup (ps.map prD)] S = .ok (.bl (risB ps)) S := by
  refine R.eq_of (wpP hm hR ?_)
  simp [risingF]
  refine ⟨by omega, ?_⟩
  rw [← ris_range ps]
  rw [ab_all (p := fun d => match d with | .int k => ltP (ps.getD k.toNat (0, 0)) (ps.getD (k.toNat + 1) (0, 0)) | _ => false) trivial fun x hx => ?_]
  · refine ⟨?_, rfl⟩
    unfold Src.items
    rw [List.all_map]
    congr 1
    congr 1
    funext k
    show ltP (ps.getD (0 + (k : Int)).toNat (0, 0)) (ps.getD ((0 + (k : Int)).toNat + 1) (0, 0)) = _
    rw [show (0 + (k : Int)).toNat = k from by omega]
  · unfold Src.items at hx
    obtain ⟨k, hk, rfl⟩ := List.mem_map.mp hx
    have hk := List.mem_range.mp hk
    refine ⟨_, rfl, rfl, R.eq_of ?_⟩
    have e1 := at_pr (ps := ps) (k := k) (by omega)
    have e2 := at_pr (ps := ps) (k := k + 1) (by omega)
    rw [show ((k + 1 : Nat) : Int) = (k : Int) + 1 from by omega] at e2
    simp [wipeE, e1, e2]
    simp [prD, ltP]
/-! frames -/
def isTie (n : Int) : D → Bool
  | .tup [.int i, .int j] => decide (0 ≤ i ∧ i < j ∧ j < n)
  | _ => false
theorem tie_step {n : Int} {d : D} : isTie n d = (isPa n d && (match d with | .tup [.int i, .int j] => decide (i < j) | _ => false)) := by
  cases d with
  | tup xs =>
    match xs with
    | [.int i, .int j] =>
      show decide _ = (decide _ && decide _)
      rw [← Bool.decide_and]
      congr 1
      apply propext
      omega
    | [] => rfl
    | [x] => cases x <;> rfl
    | .non :: _ :: _ => rfl
    | .bl _ :: _ :: _ => rfl
    | .str _ :: _ :: _ => rfl
    | .tup _ :: _ :: _ => rfl
    | .ref _ :: _ :: _ => rfl
    | .int _ :: .non :: _ => rfl
    | .int _ :: .bl _ :: _ => rfl
    | .int _ :: .str _ :: _ => rfl
    | .int _ :: .tup _ :: _ => rfl
    | .int _ :: .ref _ :: _ => rfl
    | .int _ :: .int _ :: _ :: _ => rfl
  | _ => rfl
/-! the pen -/
/-- a pen stands at r -/
def Pen (S : Sto) (r : Nat) : Prop := ∃ a b : Int, 0 ≤ a ∧ S[r]? = some (.lst true [.int a, .int b])
/-- what stood there stands there still, but at r; the pen at r is one still -/
structure Ev (r : Nat) (S S' : Sto) : Prop where
  kp : ∀ (j : Nat) o, j ≠ r → S[j]? = some o → S'[j]? = some o
  pn : Pen S' r
  ln : S.length ≤ S'.length
theorem Ev.refl {r : Nat} {S : Sto} (h : Pen S r) : Ev r S S := ⟨fun _ _ _ e => e, h, Nat.le_refl _⟩
theorem Ev.trans {r : Nat} {S1 S2 S3 : Sto} (a : Ev r S1 S2) (b : Ev r S2 S3) : Ev r S1 S3 := ⟨fun j o n e => b.kp j o n (a.kp j o n e), b.pn, Nat.le_trans a.ln b.ln⟩
theorem Pen.lt {r : Nat} {S : Sto} (h : Pen S r) : r < S.length := by
  obtain ⟨a, b, _, e⟩ := h
  exact (List.getElem?_eq_some_iff.mp e).1
theorem Ev.app {r : Nat} {S : Sto} (h : Pen S r) (T : Sto) : Ev r S (S ++ T) := by
  have kp : ∀ (j : Nat) o, S[j]? = some o → (S ++ T)[j]? = some o := fun j o e => by rw [List.getElem?_append_left (List.getElem?_eq_some_iff.mp e).1]; exact e
  obtain ⟨a, b, h0, e⟩ := id h
  exact ⟨fun j o _ e => kp j o e, ⟨a, b, h0, kp r _ e⟩, by simp⟩
/-- something new is written: it stood not there ahead -/
theorem Ev.put {r l : Nat} {S S' : Sto} {o : O} (h : Ev r S S') (hr : r < S.length) (hl : S.length ≤ l) : Ev r S (S'.set l o) := by
  refine ⟨fun j u n e => ?_, ?_, by rw [List.length_set]; exact h.ln⟩
  · have hj := (List.getElem?_eq_some_iff.mp e).1
    rw [List.getElem?_set_ne (by omega)]
    exact h.kp j u n e
  · obtain ⟨a, b, h0, e⟩ := h.pn
    exact ⟨a, b, h0, by rw [List.getElem?_set_ne (by omega)]; exact e⟩
theorem take_ok (hT : bs[iT]? = some (takeF, 4)) (hm : 2 ≤ m) {r : Nat} {n : Int} (h : Pen S r) (h0 : 0 < n) (h1 : n < 1073741824) :
    (Phi bs m 0 iT [.ref r, .int n] S).wp (fun d S' => ∃ j, d = .int j ∧ 0 ≤ j ∧ j < n ∧ Ev r S S' ∧ S'.length = S.length) noX := by
  obtain ⟨a, b, ha, h⟩ := h
  have hr := (List.getElem?_eq_some_iff.mp h).1
  have ev : ∀ a' b' : Int, 0 ≤ a' → Ev r S (S.set r (.lst true [.int a', .int b'])) := fun a' b' h2 => by
    refine ⟨fun j o n e => ?_, ⟨a', b', h2, List.getElem?_set_self hr⟩, by rw [List.length_set]; exact Nat.le_refl _⟩
    rw [List.getElem?_set_ne (Ne.symm n)]
    exact e
  refine wpP hm hT ?_
  simp [takeF, h, h0, h1]
  refine ⟨fun h2 => ⟨Int.emod_nonneg _ (by omega), Int.emod_lt_of_pos _ h0, ev _ _ (Int.ediv_nonneg ha (by omega))⟩, fun h2 => ⟨by omega, Int.emod_nonneg _ (by omega), Int.emod_lt_of_pos _ h0, ev _ _ ha⟩⟩
theorem pen_ok {iN : Nat} (hN : bs[iN]? = some (penF, 4)) (hm : 2 ≤ m) {s : Nat} {w : Bool} {ns : List Int} {k : Int} (h : S[s]? = some (.lst w (ns.map D.int))) (hl : ns.length ≤ 63) (h0 : 0 ≤ k) (h1 : k < 1000) :
    (Phi bs m 0 iN [.ref s, .int k] S).wp (fun d S' => d = .ref S.length ∧ ∃ a b : Int, 0 ≤ a ∧ S' = S ++ [.lst true [.int a, .int b]]) noX := by
  refine wpP hm hN ?_
  by_cases hn : ns = []
  · subst hn
    simp [penF, h, mx]
    intro h
    split <;> omega
  · have hp : 0 < ns.length := List.length_pos_iff.mpr hn
    have b0 := Int.emod_nonneg k (show (ns.length : Int) ≠ 0 by omega)
    have b1 := Int.emod_lt_of_pos k (show (0 : Int) < ns.length by omega)
    have e : ∃ z, L2.atI (ns.map D.int) (k % ns.length) = some (.int z) := by
      rw [at_in b0 (by rw [List.length_map]; exact b1), List.getElem_map]
      exact ⟨_, rfl⟩
    obtain ⟨z, e⟩ := e
    simp [penF, h, mx, e, hp, hn]
    exact ⟨by omega, fun _ => by split <;> omega⟩
end
end Dv

namespace Dv
open PySem
theorem mx_small {n : Nat} (h : n < 1000) : n < mx := Nat.lt_trans h (by decide)
def AllPr (ts : List D) : Prop := ∀ x ∈ ts, isPr x = true
theorem AllPr.app {xs ys : List D} (a : AllPr xs) (b : AllPr ys) : AllPr (xs ++ ys) := fun y hy => by
  rcases List.mem_append.mp hy with q | q
  · exact a y q
  · exact b y q
theorem AllPr.nil : AllPr [] := fun _ h => nomatch h
theorem AllPr.one {i j : Int} : AllPr [.tup [.int i, .int j]] := fun y hy => by rw [List.mem_singleton.mp hy]; rfl
theorem rng_mem {lo : Int} {n : Nat} {x : D} (h : x ∈ (Src.rng lo n).items) : ∃ k : Nat, k < n ∧ x = .int (lo + (k : Int)) := by
  unfold Src.items at h
  obtain ⟨k, hk, rfl⟩ := List.mem_map.mp h
  exact ⟨k, List.mem_range.mp hk, rfl⟩
theorem rng_len {lo : Int} {n : Nat} : (Src.rng lo n).items.length = n := by
  unfold Src.items
  rw [List.length_map, List.length_range]
section
variable {bs : Bodies} {iW iP iR iT m : Nat} {S : Sto}
end
end Dv

namespace Dv
open PySem
section
variable {bs : Bodies} {iT m : Nat} {S T : Sto}
/-- something drawn out of a list -/
theorem pick_ok {r L : Nat} {w : Bool} {xs : List D} {n : Int} {Q : D → Sto → Prop} {W W' : Nat → Sto → Prop} (hT : bs[iT]? = some (takeF, 4)) (hm : 2 ≤ m) (hp : Pen T r) (hL : T[L]? = some (.lst w xs)) (hne : L ≠ r) (hn : n = xs.length) (h0 : 0 < n) (h1 : n < 1073741824)
    (h : ∀ x ∈ xs, ∀ S1, Ev r T S1 → Q x S1) : (Phi bs m 0 iT [.ref r, .int n] T).wp (bK (opK2 ixD (.ref L)) Q W) W' := by
  refine R.to (take_ok hT hm hp h0 h1) ?_
  rintro d S1 ⟨j, rfl, j0, j1, ev, l1⟩
  show (quiet (ixD (.ref L) (.int j) S1)).wp Q W
  rw [ix_ref, ev.kp L _ hne hL, ixO_l, wQ]
  exact opt_in j0 (by omega) fun x hx => h x hx S1 ev
theorem at_a0 {S : Sto} {o : O} {T : Sto} : (S ++ o :: T)[S.length]? = some o := by simp
theorem at_ak {S : Sto} {o : O} {T : Sto} {k : Nat} (h : T[k]? = some o) : (S ++ T)[S.length + k]? = some o := by
  rw [List.getElem?_append_right (by omega), show S.length + k - S.length = k from by omega]
  exact h
@[simp] theorem at_app {S T : Sto} {k : Nat} : (S ++ T)[S.length + k]? = T[k]? := by
  rw [List.getElem?_append_right (by omega), show S.length + k - S.length = k from by omega]
theorem cut_le {xs : List D} {lo hi : Option Int} : (cutD xs lo hi).length ≤ xs.length := by
  unfold cutD
  rw [List.length_take, List.length_drop]
  omega
theorem Ev.app' {r : Nat} {S S' : Sto} (h : Ev r S S') (T : Sto) : Ev r S (S' ++ T) := h.trans (Ev.app h.pn T)
theorem Pen.app {r : Nat} {S : Sto} (h : Pen S r) (T : Sto) : Pen (S ++ T) r := (Ev.app h T).pn
end
end Dv

namespace Dv
open PySem
/-! ### sorting of pairs -/
theorem ltK_eq {x y : D} : ltK x y = ltP (keyD x) (keyD y) := by
  unfold ltK ltP SrtO.lexB
  rw [HT.lexLt_cons, HT.lexLt_cons, HT.lexLt_nil_nil]
  by_cases h : (keyD x).1 = (keyD y).1
  · rw [if_pos h, if_pos h]
    by_cases h2 : (keyD x).2 = (keyD y).2
    · rw [if_pos h2, decide_eq_false (by omega)]
    · rw [if_neg h2]
  · rw [if_neg h, if_neg h]
theorem ltP_tri {p q : Int × Int} (h : ltP p q = false) (h2 : p ≠ q) : ltP q p = true := by
  rw [ltP_iff]
  have a : ¬ (p.1 < q.1 ∨ p.1 = q.1 ∧ p.2 < q.2) := fun z => by rw [ltP_iff.mpr z] at h; cases h
  have b : ¬ (p.1 = q.1 ∧ p.2 = q.2) := fun z => h2 (Prod.ext z.1 z.2)
  omega
theorem ltP_asym {p q : Int × Int} (h : ltP p q = true) : ltP q p = false := by
  cases e : ltP q p with
  | false => rfl
  | true =>
    have a := ltP_iff.mp h
    have b := ltP_iff.mp e
    omega
theorem ltP_irr {p : Int × Int} : ltP p p = false := by
  cases e : ltP p p with
  | false => rfl
  | true => have a := ltP_iff.mp e; omega
theorem swoK : SrtO.Swo ltK := by
  refine ⟨fun x y h => ?_, fun x y z h1 h2 => ?_⟩
  · rw [ltK_eq] at h ⊢
    exact ltP_asym h
  · rw [ltK_eq] at h1 h2 ⊢
    cases e : ltP (keyD z) (keyD x) with
    | false => rfl
    | true =>
      have a : ¬ _ := fun q => by rw [ltP_iff.mpr q] at h1; cases h1
      have b : ¬ _ := fun q => by rw [ltP_iff.mpr q] at h2; cases h2
      have c := ltP_iff.mp e
      omega
/-- rising strictly -/
def Str_ (l : List D) : Prop := l.Pairwise fun x y => ltP (keyD x) (keyD y) = true
theorem str_ris : ∀ {l : List D}, Str_ l → risB (l.map keyD) = true
  | [], _ => rfl
  | [_], _ => rfl
  | x :: y :: r, h => by
    have h' := List.pairwise_cons.mp h
    show (ltP (keyD x) (keyD y) && risB ((y :: r).map keyD)) = true
    rw [h'.1 y List.mem_cons_self, str_ris h'.2]
    rfl
theorem pr_inj {x y : D} (hx : isPr x = true) (hy : isPr y = true) (h : keyD x = keyD y) : x = y := by
  match x, hx, y, hy with
  | .tup [.int a, .int b], _, .tup [.int c, .int d], _ =>
    have h : (a, b) = (c, d) := h
    cases h
    rfl
theorem isort_str {l : List D} (hp : AllPr l) (hn : l.Nodup) : Str_ (isort ltK l) := by
  have s := isort_srtd swoK l
  have hn2 : (isort ltK l).Nodup := (isort_perm l).nodup_iff.mpr hn
  have hp2 : AllPr (isort ltK l) := fun y hy => hp y ((isort_perm l).mem_iff.mp hy)
  generalize isort ltK l = m at s hn2 hp2
  unfold Str_
  induction m with
  | nil => exact List.Pairwise.nil
  | cons x r ih =>
    have s' := List.pairwise_cons.mp s
    have n' := List.nodup_cons.mp hn2
    refine List.pairwise_cons.mpr ⟨fun y hy => ?_, ih s'.2 n'.2 fun z hz => hp2 z (List.mem_cons_of_mem _ hz)⟩
    have q := s'.1 y hy
    rw [ltK_eq] at q
    refine ltP_tri q fun e => n'.1 ?_
    rw [← pr_inj (hp2 y (List.mem_cons_of_mem _ hy)) (hp2 x List.mem_cons_self) e]
    exact hy
/-- there is but one way to stand in order -/
theorem str_uniq : ∀ {l m : List D}, Str_ l → Str_ m → l.Perm m → l = m
  | [], m, _, _, p => by rw [p.nil_eq]
  | x :: r, m, hl, hm, p => by
    cases m with
    | nil => exact absurd p.length_eq (by simp)
    | cons y t =>
      have l' := List.pairwise_cons.mp hl
      have m' := List.pairwise_cons.mp hm
      have e : x = y := by
        rcases List.mem_cons.mp (p.mem_iff.mp (List.mem_cons_self (a := x))) with e | hx
        · exact e
        · rcases List.mem_cons.mp (p.mem_iff.mpr (List.mem_cons_self (a := y))) with e | hy
          · exact e.symm
          · have a := m'.1 x hx
            have b := l'.1 y hy
            rw [ltP_asym a] at b
            cases b
      subst e
      rw [str_uniq l'.2 m'.2 (List.Perm.cons_inv p)]
theorem str_nodup {l : List D} (h : Str_ l) : l.Nodup := h.imp fun {a b} q e => by rw [e, ltP_irr] at q; cases q
theorem isort_is {l m : List D} (hm : Str_ m) (hp : AllPr l) (p : l.Perm m) : isort ltK l = m :=
  str_uniq (isort_str hp (p.nodup_iff.mpr (str_nodup hm))) hm ((isort_perm l).trans p)
end Dv

namespace Dv
open PySem
def iD (k : Nat) : D := .int (k : Int)
theorem rng_items {N : Nat} : (Src.rng 0 N).items = (List.range' 0 N).map iD := by
  show (List.range N).map (fun k : Nat => D.int (0 + (k : Int))) = _
  rw [List.range_eq_range']
  refine List.map_congr_left fun k _ => ?_
  show D.int (0 + (k : Int)) = D.int (k : Int)
  rw [Int.zero_add]
theorem rng_cons {c n : Nat} {x : D} {xs : List D} (h : x :: xs = (List.range' c n).map iD) : ∃ m, n = m + 1 ∧ x = iD c ∧ xs = (List.range' (c + 1) m).map iD := by
  cases n with
  | zero => simp at h
  | succ m =>
    rw [List.range'_succ, List.map_cons] at h
    cases h
    exact ⟨m, rfl, rfl, rfl⟩
theorem rng_nil {c n : Nat} (h : ([] : List D) = (List.range' c n).map iD) : n = 0 := by
  cases n with
  | zero => rfl
  | succ m => rw [List.range'_succ, List.map_cons] at h; cases h
theorem er_perm {α : Type} : ∀ {l : List α} {i : Nat} (h : i < l.length), (l[i] :: l.eraseIdx i).Perm l
  | x :: r, 0, _ => List.Perm.refl _
  | x :: r, i + 1, h => by
    have h' : i < r.length := by simpa using h
    show (r[i] :: x :: r.eraseIdx i).Perm (x :: r)
    exact (List.Perm.swap x _ _).trans ((er_perm h').cons x)
/-- a pair under c -/
def Un_ (c : Nat) (y : D) : Prop := ∃ i j : Int, y = .tup [.int i, .int j] ∧ 0 ≤ i ∧ i < j ∧ j < c
def gI1 (S : Sto) (r : Nat) (n : Int) (xs : List D) (ρ : Dv.Env) (S' : Sto) : Prop := ∃ c k l ys o3, ρ = [some (.ref r), some (.int n), some (.ref l), o3, none, none, none] ∧ S'[l]? = some (.lst true ys) ∧ S.length ≤ l ∧ ys.Nodup ∧ (∀ y ∈ ys, Un_ c y) ∧ ys.length ≤ 8 * c ∧ Ev r S S' ∧ xs = (List.range' c k).map iD ∧ ((c + k : Nat) : Int) = n
def gI2 (S : Sto) (r l L : Nat) (c : Nat) (ys : List D) (zs : List D) (S2 : Sto) : Prop := Ev r S S2 ∧ S2[l]? = some (.lst true ys) ∧ ∃ acc i k, S2[L]? = some (.lst true acc) ∧ acc.Nodup ∧ (∀ y ∈ acc, ∃ a : Int, y = .tup [.int a, .int c] ∧ 0 ≤ a ∧ a < (i : Nat)) ∧ acc.length = i ∧ zs = (List.range' i k).map iD ∧ i + k = c
def gI3 (S : Sto) (r l t : Nat) (n : Int) (xs : List D) (ρ : Dv.Env) (S' : Sto) : Prop := ∃ ys ts o3 o5, ρ = [some (.ref r), some (.int n), some (.ref l), o3, some (.ref t), o5, none] ∧ S'[l]? = some (.lst true ys) ∧ S'[t]? = some (.lst true ts) ∧ (ys ++ ts).Nodup ∧ (∀ y ∈ ys ++ ts, isTie n y = true) ∧ xs.length ≤ ys.length ∧ ys.length ≤ 64 ∧ ts.length + xs.length ≤ 7 ∧ Ev r S S'
/-- a frame -/
def gP (S : Sto) (r : Nat) (d : D) (S' : Sto) : Prop := ∃ (n : Int) (ts : List D), d = .tup [.int n, .tup ts] ∧ 1 ≤ n ∧ n ≤ 8 ∧ Str_ ts ∧ (∀ y ∈ ts, isTie n y = true) ∧ ts.length ≤ 7 ∧ Ev r S S'
theorem tie_isPr {n : Int} {y : D} (h : isTie n y = true) : isPr y = true := by
  match y, h with
  | .tup [.int i, .int j], _ => rfl
section
variable {bs : Bodies} {iT m : Nat} {S : Sto}
theorem frame_ok2 {iF r : Nat} (hT : bs[iT]? = some (takeF, 4)) (hF : bs[iF]? = some (frameF iT, 7)) (hm : 3 ≤ m) (h : Pen S r) :
    (Phi bs m 0 iF [.ref r] S).wp (gP S r) noX := by
  have tk := fun (T : Sto) (n : Int) (hp : Pen T r) (h0 : 0 < n) (h1 : n < 1073741824) => take_ok hT (show 2 ≤ m - 1 by omega) hp h0 h1
  refine wpP (by omega) hF ?_
  simp [frameF]
  refine R.to (tk S 8 h (by omega) (by omega)) ?_
  rintro d S1 ⟨j, rfl, j0, j1, ev1, l1⟩
  simp
  refine ⟨by omega, ?_⟩
  have rl : r < S.length := h.lt
  refine for_inv (gI1 S r (1 + j)) ?_ ?_ _ _ _ ?_
  · rintro x xs ρ S' ⟨c, k, l, ys, o3, rfl, hl, ll, nd, un, bd, ev, hx, hn⟩
    obtain ⟨k, rfl, rfl, rfl⟩ := rng_cons hx
    refine ⟨trivial, _, rfl, ?_⟩
    simp [wipeE, iD]
    refine ⟨by omega, ?_⟩
    have hll := (List.getElem?_eq_some_iff.mp hl).1
    refine lc_inv (gI2 S r l S'.length c ys) ?_ ?_ _ _ ?_
    · rintro z zs S2 ⟨e2, hl2, acc, i, k2, ha, na, pa, ba, hz, hc⟩
      obtain ⟨k2, rfl, rfl, rfl⟩ := rng_cons hz
      refine ⟨trivial, _, rfl, ?_⟩
      simp [iD]
      refine ⟨acc, ha, mx_small (by omega), e2.put rl (by omega), ?_, acc ++ [.tup [.int i, .int c]], i + 1, k2, List.getElem?_set_self (List.getElem?_eq_some_iff.mp ha).1, ?_, ?_, by simp; omega, rfl, by omega⟩
      · rw [List.getElem?_set_ne (by omega)]; exact hl2
      · refine List.nodup_append.mpr ⟨na, by simp, fun a ha' b hb e => ?_⟩
        rw [List.mem_singleton.mp hb] at e
        obtain ⟨q, e1, _, e2⟩ := pa a ha'
        rw [e1] at e
        cases e
        omega
      · intro y hy
        rcases List.mem_append.mp hy with q | q
        · obtain ⟨a, e1, e2, e3⟩ := pa y q
          exact ⟨a, e1, e2, by omega⟩
        · exact ⟨i, List.mem_singleton.mp q, by omega, by omega⟩
    · rintro S2 ⟨e2, hl2, acc, i, k2, ha, na, pa, ba, hz, hc⟩
      have k0 := rng_nil hz
      subst k0
      refine ⟨trivial, ?_⟩
      simp [hl2, ha]
      refine ⟨by omega, c + 1, k, S2.length, ys ++ acc, _, rfl, by simp, by have := e2.ln; omega, ?_, ?_, by simp; omega, e2.trans (Ev.app e2.pn _), rfl, by omega⟩
      · refine List.nodup_append.mpr ⟨nd, na, fun a ha' b hb e => ?_⟩
        obtain ⟨p, q, e1, _, _, h3⟩ := un a ha'
        obtain ⟨p2, e2', _⟩ := pa b hb
        rw [e1, e2'] at e
        cases e
        omega
      · intro y hy
        rcases List.mem_append.mp hy with q | q
        · obtain ⟨a, b, e1, e2, e3, e4⟩ := un y q
          exact ⟨a, b, e1, e2, e3, by omega⟩
        · obtain ⟨a, e1, e2, e3⟩ := pa y q
          exact ⟨a, c, e1, e2, by omega, by omega⟩
    · refine ⟨ev.trans (Ev.app ev.pn _), ?_, [], 0, c, by simp, List.nodup_nil, (fun y hy => nomatch hy), rfl, ?_, by omega⟩
      · rw [List.getElem?_append_left hll]; exact hl
      · exact rng_items
  · rintro ρ S' ⟨c, k, l, ys, o3, rfl, hl, ll, nd, un, bd, ev, hx, hn⟩
    have k0 := rng_nil hx
    subst k0
    refine ⟨trivial, ?_⟩
    have hll := (List.getElem?_eq_some_iff.mp hl).1
    have ev2 := ev.trans (Ev.app ev.pn [.lst true []])
    simp
    refine R.to (tk _ 8 ev2.pn (by omega) (by omega)) ?_
    rintro d S2 ⟨j2, rfl, j20, j21, ev3, l3⟩
    have hl2 : S2[l]? = some (.lst true ys) := ev3.kp l _ (by omega) (by rw [List.getElem?_append_left hll]; exact hl)
    have ht2 : S2[S'.length]? = some (.lst true []) := ev3.kp _ _ (by omega) (by simp)
    simp [hl2]
    refine ⟨by split <;> omega, ?_⟩
    refine for_inv (gI3 S r l S'.length (1 + j)) ?_ ?_ _ _ _ ?_
    · rintro x xs ρ S3 ⟨ys3, ts, o3, o5, rfl, hl3, ht3, nd3, ti3, b1, b2, b3, ev4⟩
      refine ⟨trivial, _, rfl, ?_⟩
      rw [List.length_cons] at b1 b3
      simp [ht3, hl3]
      refine R.to (tk _ _ ev4.pn (by omega) (by omega)) ?_
      rintro d S4 ⟨j4, rfl, j40, j41, ev5, l5⟩
      have hl4 : S4[l]? = some (.lst true ys3) := ev5.kp l _ (by omega) hl3
      have ht4 : S4[S'.length]? = some (.lst true ts) := ev5.kp _ _ (by omega) ht3
      simp [hl4]
      rw [popO_in j40 j41 (by omega)]
      have ne : l ≠ S'.length := by omega
      simp [List.getElem?_set_ne ne, ht4]
      have ltl : l < S4.length := (List.getElem?_eq_some_iff.mp hl4).1
      have ltt : S'.length < S4.length := (List.getElem?_eq_some_iff.mp ht4).1
      have hlen : (ys3.eraseIdx j4.toNat).length = ys3.length - 1 := List.length_eraseIdx_of_lt (by omega)
      have pm : (ys3.eraseIdx j4.toNat ++ (ts ++ [ys3[j4.toNat]'(by omega)])).Perm (ys3 ++ ts) := by
        have q : (ys3[j4.toNat]'(by omega) :: ys3.eraseIdx j4.toNat).Perm ys3 := er_perm (by omega)
        have q2 := q.append_right ts
        refine List.Perm.trans ?_ q2
        rw [← List.append_assoc]
        exact List.perm_append_singleton _ _
      refine ⟨by omega, ys3.eraseIdx j4.toNat, ts ++ [ys3[j4.toNat]'(by omega)], _, _, rfl, ?_, ?_, pm.nodup_iff.mpr nd3, fun y hy => ti3 y (pm.mem_iff.mp hy), ?_, ?_, ?_, ((ev4.trans ev5).put rl (by omega)).put rl (by omega)⟩
      · rw [List.getElem?_set_ne (Ne.symm ne), List.getElem?_set_self ltl]
      · rw [List.getElem?_set_self (by rw [List.length_set]; exact ltt)]
      · omega
      · omega
      · rw [List.length_append, List.length_singleton]; omega
    · rintro ρ S3 ⟨ys3, ts, o3, o5, rfl, hl3, ht3, nd3, ti3, b1, b2, b3, ev4⟩
      refine ⟨trivial, ?_⟩
      have pt : AllPr ts := fun y hy => tie_isPr (ti3 y (List.mem_append_right _ hy))
      have pl := (isort_perm (lt := ltK) ts).length_eq
      simp at b3
      simp [ht3]
      exact ⟨⟨pt, by omega⟩, by omega, 1 + j, _, rfl, by omega, by omega, isort_str pt (List.nodup_append.mp nd3).2.1, fun y hy => ti3 y (List.mem_append_right _ ((isort_perm ts).mem_iff.mp hy)), by omega, ev4.trans (Ev.app ev4.pn _)⟩
    · refine ⟨ys, [], _, _, rfl, hl2, ht2, by simpa using nd, fun y hy => ?_, ?_, by omega, ?_, ev2.trans ev3⟩
      · obtain ⟨a, b, rfl, h1, h2, h3⟩ := un y (by simpa using hy)
        exact decide_eq_true ⟨h1, h2, by omega⟩
      · rw [rng_len]; split <;> omega
      · rw [rng_len, List.length_nil]; split <;> omega
  · refine ⟨0, (1 + j).toNat, _, [], _, rfl, by simp, by omega, List.nodup_nil, (fun y hy => nomatch hy), by simp, ev1.trans (Ev.app ev1.pn _), ?_, by omega⟩
    exact rng_items
end
end Dv

namespace Dv
open PySem
section
variable {lv : Lv} {ρ : Dv.Env} {S : Sto} {a b : Den} {ra : DenA} {ta tb : DenT}
/-! ### more of the operations -/
def nDk : Option O → Bool
  | some (.dk _) => false
  | some (.dt _) => false
  | some (.dn _) => false
  | some (.ob _ _) => false
  | some (.xc _ _) => false
  | _ => true
@[simp] theorem nDk_l {w : Bool} {xs : List D} : nDk (some (.lst w xs)) = true := id rfl
@[simp] theorem kd_lr {i : Nat} : isK (kdOf (.ref i) S) .lst = nDk S[i]? := by
  unfold kdOf nDk
  cases h : S[i]? with
  | none => simp [h, isK]
  | some o => cases o <;> simp [h, isK]
@[simp] theorem kd_lt {xs : List D} : isK (kdOf (.tup xs) S) .lst = false := id rfl
def i2K (T U : Ty) : D → Sto → R D := fun d S => .ok (.bl (isK (kdOf d S) T || isK (kdOf d S) U)) S
@[simp] theorem i2K_ap {T U : Ty} {d : D} : i2K T U d S = .ok (.bl (isK (kdOf d S) T || isK (kdOf d S) U)) S := id rfl
@[simp] theorem ev_isi2 {T U : Ty} : dIsi2 T U a lv ρ S = (a lv ρ S).bind (i2K T U) := id rfl
@[simp] theorem min1_i {i j : Int} : min1D [.tup [.int i, .int j]] S = .ok (.int (if j < i then j else i)) S := id rfl
@[simp] theorem max1_i {i j : Int} : max1D [.tup [.int i, .int j]] S = .ok (.int (if i < j then j else i)) S := id rfl
@[simp] theorem ev_no : sNo lv ρ S = .no := id rfl
@[simp] theorem isn_b {i j : Bool} : isnD (.bl i) (.bl j) S = .ok (.bl (!decide (i = j))) S := id rfl
def insO (i : Nat) (k : Int) (y : D) : Option O → Sto → R D
  | some (.lst true xs), S => if 0 ≤ k ∧ k < 1000000 ∧ xs.length < mx then .ok .non (S.set i (.lst true (xs.take k.toNat ++ [y] ++ xs.drop k.toNat))) else .no
  | _, _ => .no
@[simp] theorem insO_l {i : Nat} {k : Int} {y : D} {xs : List D} : insO i k y (some (.lst true xs)) S = if 0 ≤ k ∧ k < 1000000 ∧ xs.length < mx then .ok .non (S.set i (.lst true (xs.take k.toNat ++ [y] ++ xs.drop k.toNat))) else .no := id rfl
@[simp] theorem ins_ref {i : Nat} {k : Int} {y : D} : insertD (.ref i) [.int k, y] S = insO i k y S[i]? S := by
  unfold insertD insO
  dsimp only
  cases S[i]? with
  | none => rfl
  | some o =>
    cases o with
    | lst w xs => cases w <;> rfl
    | dk kvs => rfl
    | dt kvs => rfl
    | dn kvs => rfl
    | ob c fs => rfl
    | xc x j => rfl
def revO (i : Nat) : Option O → Sto → R D
  | some (.lst true xs), S => .ok .non (S.set i (.lst true xs.reverse))
  | _, _ => .no
@[simp] theorem revO_l {i : Nat} {xs : List D} : revO i (some (.lst true xs)) S = .ok .non (S.set i (.lst true xs.reverse)) := id rfl
@[simp] theorem rev_ref {i : Nat} : reverseD (.ref i) [] S = revO i S[i]? S := by
  unfold reverseD revO
  dsimp only
  cases S[i]? with
  | none => rfl
  | some o =>
    cases o with
    | lst w xs => cases w <;> rfl
    | dk kvs => rfl
    | dt kvs => rfl
    | dn kvs => rfl
    | ob c fs => rfl
    | xc x j => rfl
def lstO : Option O → Sto → R D
  | some (.lst _ xs), S => if xs.length ≤ mx then .ok (.ref S.length) (S ++ [.lst true xs]) else .no
  | _, _ => .no
@[simp] theorem lstO_l {w : Bool} {xs : List D} : lstO (some (.lst w xs)) S = if xs.length ≤ mx then .ok (.ref S.length) (S ++ [.lst true xs]) else .no := id rfl
@[simp] theorem list_ref {i : Nat} : listD [.ref i] S = lstO S[i]? S := by
  unfold listD itemsD lstO
  dsimp only
  cases S[i]? with
  | none => rfl
  | some o => cases o <;> rfl
/-! sorted of a generator -/
noncomputable def sgK (t : Tg) (ta : DenT) (a : Den) (vs : List Nat) (lv : Lv) (ρ : Dv.Env) : Src → Sto → R D := fun src S => (glGo src.chk t (ta lv.dn) (a lv.dn) (wipeE ρ vs) src.items [] S).bind srtK
@[simp] theorem sgK_ap {t : Tg} {vs : List Nat} {src : Src} : sgK t ta a vs lv ρ src S = (glGo src.chk t (ta lv.dn) (a lv.dn) (wipeE ρ vs) src.items [] S).bind srtK := id rfl
@[simp] theorem ev_sg {di : DenI} {t : Tg} {vs : List Nat} : dSg di t ta a vs lv ρ S = (di lv ρ S).bind (sgK t ta a vs lv ρ) := id rfl
@[simp] theorem srtK_ap {ys : List D} : srtK ys S = if ys.all isPr = true ∧ ys.length ≤ mx then .ok (.ref S.length) (S ++ [.lst true (isort ltK ys)]) else .no := id rfl
end
theorem gl_all {chk : Sto → Prop} {t : Tg} {cond : Dv.Env → Sto → R Bool} {elt : Dv.Env → Sto → R D} {ρ : Dv.Env} {S : Sto} {f : D → D} (hc : chk S) : ∀ {xs acc : List D}, acc.length + xs.length ≤ 1000 → (∀ x ∈ xs, ∃ ρ1, tgD t x ρ = some ρ1 ∧ cond ρ1 S = .ok true S ∧ elt ρ1 S = .ok (f x) S) →
    glGo chk t cond elt ρ xs acc S = .ok (acc ++ xs.map f) S
  | [], acc, _, _ => by
    unfold glGo
    rw [if_pos hc, List.map_nil, List.append_nil]
  | x :: xs, acc, hl, h => by
    obtain ⟨ρ1, h1, h2, h3⟩ := h x List.mem_cons_self
    rw [List.length_cons] at hl
    unfold glGo
    rw [if_pos hc]
    simp only [h1, h2, h3, quiet_ok, R.bind_ok, if_true]
    rw [if_pos (mx_small (by omega)), gl_all hc (by rw [List.length_append, List.length_singleton]; omega) fun y hy => h y (List.mem_cons_of_mem _ hy)]
    rw [List.append_assoc]
    rfl
/-! ### == of pairs -/
def pP (y : D) : PyData := .tuple [.int (keyD y).1, .int (keyD y).2]
theorem toP_pr {S : Sto} {y : D} {k : Nat} (h : isPr y = true) (hk : 4 ≤ k) : toP S k y = some (pP y) := by
  obtain ⟨k, rfl⟩ : ∃ q, k = q + 4 := ⟨k - 4, by omega⟩
  match y, h with
  | .tup [.int a, .int b], _ => rfl
theorem toPs_pr {S : Sto} : ∀ {ts : List D} {k : Nat}, AllPr ts → ts.length + 5 ≤ k → toPs S k ts = some (ts.map pP)
  | [], k, _, _ => by cases k <;> rfl
  | t :: ts, k, h, hk => by
    rw [List.length_cons] at hk
    obtain ⟨k, rfl⟩ : ∃ q, k = q + 1 := ⟨k - 1, by omega⟩
    show (match toP S k t, toPs S k ts with | some p, some ps => some (p :: ps) | _, _ => none) = _
    rw [toP_pr (h t List.mem_cons_self) (by omega), toPs_pr (fun y hy => h y (List.mem_cons_of_mem _ hy)) (by omega)]
    rfl
theorem lay_pP : ∀ ts : List D, PyData.canLayAll0 (ts.map pP) = true
  | [] => rfl
  | t :: ts => by
    rw [List.map_cons]
    simp [PyData.canLayAll0, pP, PyData.canLay0, lay_pP ts]
theorem dep_pP : ∀ ts : List D, PyData.depthAll (ts.map pP) ≤ 2
  | [] => by simp [PyData.depthAll]
  | t :: ts => by
    have := dep_pP ts
    rw [List.map_cons]
    simp [PyData.depthAll, pP, PyData.depth]
    omega
theorem eqv_pP : ∀ ts : List D, PyData.eqvAll (ts.map pP) (ts.map pP) = true
  | [] => by simp [PyData.eqvAll]
  | t :: ts => by
    rw [List.map_cons]
    simp [PyData.eqvAll, pP, PyData.eqv, eqv_pP ts]
end Dv

namespace Dv
open PySem PySem.Spec PyProof.Rows L2

/-! ### things that can be shown -/
mutual
theorem toR_le {S : Sto} : ∀ {n k : Nat} {d : D} {p : PyData}, n ≤ k → toR S n d = some p → toR S k d = some p
  | 0, _, _, _, _, e => by cases e
  | n + 1, 0, _, _, h, _ => by omega
  | n + 1, k + 1, d, p, h, e => by
    cases d with
    | tup ds =>
      unfold toR at e ⊢
      obtain ⟨ps, e1, rfl⟩ := Option.map_eq_some_iff.mp e
      rw [toRs_le (by omega) e1]; rfl
    | ref i =>
      unfold toR at e ⊢
      split at e
      · rename_i b ds e0
        obtain ⟨ps, e1, rfl⟩ := Option.map_eq_some_iff.mp e
        rw [toRs_le (by omega) e1]; rfl
      · exact e
      · cases e
    | _ => exact e
theorem toRs_le {S : Sto} : ∀ {n k : Nat} {ds : List D} {ps : List PyData}, n ≤ k → toRs S n ds = some ps → toRs S k ds = some ps
  | n, k, [], ps, h, e => by
    have : ps = [] := by cases n <;> (cases e; rfl)
    subst this
    cases k <;> rfl
  | 0, _, _ :: _, _, _, e => by cases e
  | n + 1, 0, _ :: _, _, h, _ => by omega
  | n + 1, k + 1, d :: ds, ps, h, e => by
    unfold toRs at e ⊢
    split at e
    · rename_i p qs e1 e2
      cases e
      rw [toR_le (by omega) e1, toRs_le (by omega) e2]
    · cases e
end
/-- what is shown stays -/
def Kps (S S' : Sto) : Prop := (∀ (j : Nat) (b : Bool) (xs : List D), S[j]? = some (.lst b xs) → S'[j]? = some (.lst b xs)) ∧ ∀ j : Nat, S[j]? = some (.dk []) → S'[j]? = some (.dk [])
mutual
theorem toR_kp {S S' : Sto} (h : Kps S S') : ∀ {n : Nat} {d : D} {p : PyData}, toR S n d = some p → toR S' n d = some p
  | 0, _, _, e => by cases e
  | n + 1, d, p, e => by
    cases d with
    | tup ds =>
      unfold toR at e ⊢
      obtain ⟨ps, e1, rfl⟩ := Option.map_eq_some_iff.mp e
      rw [toRs_kp h e1]; rfl
    | ref i =>
      unfold toR at e ⊢
      split at e
      · rename_i b ds e0
        obtain ⟨ps, e1, rfl⟩ := Option.map_eq_some_iff.mp e
        rw [h.1 i b ds e0]
        simp only
        rw [toRs_kp h e1]; rfl
      · rename_i e0
        rw [h.2 i e0]; exact e
      · cases e
    | _ => exact e
theorem toRs_kp {S S' : Sto} (h : Kps S S') : ∀ {n : Nat} {ds : List D} {ps : List PyData}, toRs S n ds = some ps → toRs S' n ds = some ps
  | n, [], ps, e => by
    cases n <;> exact e
  | 0, _ :: _, _, e => by cases e
  | n + 1, d :: ds, ps, e => by
    unfold toRs at e ⊢
    split at e
    · rename_i p qs e1 e2
      cases e
      rw [toR_kp h e1, toRs_kp h e2]
    · cases e
end
/-- c: it may have dicts but has no lists; else it has no dicts -/
def Tg1 (c : Bool) (k w : Nat) (p : PyData) : Prop := p.showable = true ∧ p.leavesShort 64 = true ∧ p.weight ≤ w ∧ p.depth ≤ k ∧ (if c = true then noL p = true else p.hasDict = false)
def Tng (S : Sto) (c : Bool) (f k w : Nat) (d : D) : Prop := ∃ p, toR S f d = some p ∧ Tg1 c k w p
def Tg1s (c : Bool) (k w n : Nat) (ps : List PyData) : Prop := PyData.showableAll ps = true ∧ PyData.leavesShortAll 64 ps = true ∧ PyData.weightAll ps ≤ n * (w + 1) ∧ PyData.depthAll ps ≤ k ∧ (if c = true then noLs ps = true else PyData.hasDictAll ps = false)
theorem Tng.up {S : Sto} {c : Bool} {f k w f' k' w' : Nat} {d : D} (h : Tng S c f k w d) (h1 : f ≤ f') (h2 : k ≤ k') (h3 : w ≤ w') : Tng S c f' k' w' d := by
  obtain ⟨p, e, a, b, x, y, z⟩ := h
  exact ⟨p, toR_le h1 e, a, b, by omega, by omega, z⟩
theorem Tng.kp {S S' : Sto} {c : Bool} {f k w : Nat} {d : D} (h : Tng S c f k w d) (q : Kps S S') : Tng S' c f k w d := by
  obtain ⟨p, e, z⟩ := h
  exact ⟨p, toR_kp q e, z⟩
theorem Tng.fit {S : Sto} {c : Bool} {f k w : Nat} {d : D} (h : Tng S c f k w d) (h1 : f ≤ 1000) (h2 : k ≤ 60) (h3 : w ≤ 100000) : ∃ p, toR S 1000 d = some p ∧ fitP p = true := by
  obtain ⟨p, e, a, b, x, y, z⟩ := h
  refine ⟨p, toR_le h1 e, ?_⟩
  have hz : (!p.hasDict || noL p) = true := by
    cases c with
    | true => simp only [if_true] at z; rw [z]; simp
    | false => simp only [Bool.false_eq_true, if_false] at z; rw [z]; rfl
  unfold fitP
  rw [a, b, hz, decide_eq_true (show p.weight ≤ 100000 by omega), decide_eq_true (show p.depth ≤ 60 by omega)]
  rfl
theorem Tng.non {S : Sto} {c : Bool} : Tng S c 1 0 0 .non := ⟨.none, rfl, by simp [PyData.showable], by simp [PyData.leavesShort], by simp [PyData.weight], by simp [PyData.depth], by cases c <;> simp [noL, PyData.hasDict]⟩
theorem Tng.bl {S : Sto} {c b : Bool} : Tng S c 1 0 0 (.bl b) := ⟨.bool b, rfl, by simp [PyData.showable], by simp [PyData.leavesShort], by simp [PyData.weight], by simp [PyData.depth], by cases c <;> simp [noL, PyData.hasDict]⟩
theorem log2_100 {n : Nat} (h : n < 10 ^ 30) : n.log2 < 100 := by
  by_cases h0 : n = 0
  · subst h0; decide
  · exact (Nat.log2_lt h0).mpr (Nat.lt_trans h (by decide))
theorem Tng.int {S : Sto} {c : Bool} {i : Int} (h : i.natAbs < 10 ^ 30) : Tng S c 1 0 100 (.int i) := by
  have hl := log2_100 h
  refine ⟨.int i, rfl, by simp [PyData.showable]; omega, ?_, ?_, by simp [PyData.depth], by cases c <;> simp [noL, PyData.hasDict]⟩
  · simp only [PyData.leavesShort, decide_eq_true_eq]
    have e := int_text_length_le10 (k := 30) (by decide) h
    show (Str.ofString (toString i)).length ≤ 64
    rw [PySem.ofString_length]; omega
  · simp only [PyData.weight]
    split <;> omega
theorem Tng.str {S : Sto} {c : Bool} {x : Str} (h : x.cps.size ≤ 8) (h2 : (x.cps.toList.all fun c => decide (c < 16 ^ 8)) = true) : Tng S c 1 0 8 (.str x) :=
  ⟨.str x, rfl, by simp [PyData.showable], by simp only [PyData.leavesShort]; exact h2, by simp only [PyData.weight]; exact h, by simp [PyData.depth], by cases c <;> simp [noL, PyData.hasDict]⟩
theorem tngs {S : Sto} {c : Bool} {f k w : Nat} : ∀ {ds : List D}, (∀ d ∈ ds, Tng S c f k w d) → ∃ ps, toRs S (f + ds.length) ds = some ps ∧ Tg1s c k w ds.length ps
  | [], _ => ⟨[], by cases f <;> rfl, by simp [PyData.showableAll], by simp [PyData.leavesShortAll], by simp [PyData.weightAll], by simp [PyData.depthAll], by cases c <;> simp [noLs, PyData.hasDictAll]⟩
  | d :: ds, h => by
    obtain ⟨p, e, a1, a2, a3, a4, a5⟩ := h d List.mem_cons_self
    obtain ⟨ps, es, b1, b2, b3, b4, b5⟩ := tngs (ds := ds) fun x hx => h x (List.mem_cons_of_mem _ hx)
    refine ⟨p :: ps, ?_, ?_, ?_, ?_, ?_, ?_⟩
    · rw [List.length_cons, show f + (ds.length + 1) = (f + ds.length) + 1 from by omega]
      unfold toRs
      rw [toR_le (show f ≤ f + ds.length by omega) e, es]
    · simp only [PyData.showableAll, a1, b1, Bool.and_self]
    · simp only [PyData.leavesShortAll, a2, b2, Bool.and_self]
    · simp only [PyData.weightAll, List.length_cons]
      rw [Nat.add_mul]; omega
    · simp only [PyData.depthAll]; omega
    · cases c <;> simp_all [noLs, PyData.hasDictAll]
theorem Tng.tup {S : Sto} {c : Bool} {f k w n : Nat} {ds : List D} (h : ∀ d ∈ ds, Tng S c f k w d) (hn : ds.length ≤ n) : Tng S c (f + n + 1) (k + 1) (n * (w + 1)) (.tup ds) := by
  obtain ⟨ps, e, b1, b2, b3, b4, b5⟩ := tngs h
  refine ⟨.tuple ps, ?_, ?_, ?_, ?_, ?_, ?_⟩
  · unfold toR
    rw [toRs_le (show f + ds.length ≤ f + n by omega) e]; rfl
  · simpa [PyData.showable] using b1
  · simpa [PyData.leavesShort] using b2
  · simp only [PyData.weight]
    exact Nat.le_trans b3 (Nat.mul_le_mul_right _ hn)
  · simp only [PyData.depth]; omega
  · cases c <;> simpa [noL, PyData.hasDict] using b5
theorem Tng.lst {S : Sto} {f k w n i : Nat} {b : Bool} {ds : List D} (hi : S[i]? = some (.lst b ds)) (h : ∀ d ∈ ds, Tng S false f k w d) (hn : ds.length ≤ n) : Tng S false (f + n + 1) (k + 1) (n * (w + 1)) (.ref i) := by
  obtain ⟨ps, e, b1, b2, b3, b4, b5⟩ := tngs h
  refine ⟨.list ps, ?_, ?_, ?_, ?_, ?_, ?_⟩
  · unfold toR
    rw [hi]
    simp only
    rw [toRs_le (show f + ds.length ≤ f + n by omega) e]; rfl
  · simpa [PyData.showable] using b1
  · simpa [PyData.leavesShort] using b2
  · simp only [PyData.weight]
    exact Nat.le_trans b3 (Nat.mul_le_mul_right _ hn)
  · simp only [PyData.depth]; omega
  · simpa [PyData.hasDict] using b5
theorem Tng.dk {S : Sto} {i : Nat} (hi : S[i]? = some (.dk [])) : Tng S true 1 1 0 (.ref i) := by
  refine ⟨.dict [], ?_, by simp [PyData.showable, PyData.showableKv], by simp [PyData.leavesShort, PyData.leavesShortKv], by simp [PyData.weight, PyData.weightKv], by simp [PyData.depth, PyData.depthKv], by simp [noL]⟩
  unfold toR
  rw [hi]
end Dv

namespace Dv
open PySem PySem.Spec PyProof.Rows L2
section
variable {S : Sto} {lv : Lv} {ρ : Dv.Env}
def getO (k : L2.Key) : Option O → Sto → R D
  | some (.dk kvs), S => optR (valK kvs k) S
  | _, _ => .no
@[simp] theorem getO_d {k : L2.Key} {kvs : List (L2.Key × D)} : getO k (some (.dk kvs)) S = optR (valK kvs k) S := id rfl
@[simp] theorem get_s {i : Nat} {x : Str} : getKD (.ref i) (.str x) S = getO (.inr x) S[i]? S := by
  simp only [getKD, dkD, kyD]
  generalize S[i]? = o
  rcases o with _ | (_ | kvs | _ | _ | _ | _)
  · rfl
  · rfl
  · simp only [getO_d]
    cases valK kvs (.inr x) <;> rfl
  · rfl
  · rfl
  · rfl
  · rfl
def putO (i : Nat) (k : L2.Key) (v : D) : Option O → Sto → R Unit
  | some (.dk kvs), S => if kvs.length ≤ mx then .ok () (S.set i (.dk (setK kvs k v))) else .no
  | _, _ => .no
@[simp] theorem putO_d {i : Nat} {k : L2.Key} {v : D} {kvs : List (L2.Key × D)} : putO i k v (some (.dk kvs)) S = if kvs.length ≤ mx then .ok () (S.set i (.dk (setK kvs k v))) else .no := id rfl
@[simp] theorem put_s {i : Nat} {x : Str} {v : D} : putKD (.ref i) (.str x) v S = putO i (.inr x) v S[i]? S := by
  simp only [putKD, kyD]
  generalize S[i]? = o
  rcases o with _ | (_ | kvs | _ | _ | _ | _) <;> rfl
def swK3 (f : D → D → D → Sto → R Unit) (v x : D) (ρ : Dv.Env) : D → Sto → R Fl := fun y S => (f x y v S).bindS ρ (suK4 ρ)
@[simp] theorem swK3_ap {f : D → D → D → Sto → R Unit} {v x y : D} : swK3 f v x ρ y S = (f x y v S).bindS ρ (suK4 ρ) := id rfl
def swK2 (f : D → D → D → Sto → R Unit) (i : Den) (lv : Lv) (ρ : Dv.Env) (v : D) : D → Sto → R Fl := fun x S => (i lv ρ S).bindS ρ (swK3 f v x ρ)
@[simp] theorem swK2_ap {f : D → D → D → Sto → R Unit} {i : Den} {v x : D} : swK2 f i lv ρ v x S = (i lv ρ S).bindS ρ (swK3 f v x ρ) := id rfl
def swK1 (f : D → D → D → Sto → R Unit) (o i : Den) (lv : Lv) (ρ : Dv.Env) : D → Sto → R Fl := fun v S => (o lv ρ S).bindS ρ (swK2 f i lv ρ v)
@[simp] theorem swK1_ap {f : D → D → D → Sto → R Unit} {o i : Den} {v : D} : swK1 f o i lv ρ v S = (o lv ρ S).bindS ρ (swK2 f i lv ρ v) := id rfl
@[simp] theorem ev_subW {f : D → D → D → Sto → R Unit} {o i a : Den} : sSubW f o i a lv ρ S = (a lv ρ S).bindS ρ (swK1 f o i lv ρ) := id rfl
@[simp] theorem int_b {c : Bool} : intD [.bl c] S = .ok (.int (if c then 1 else 0)) S := id rfl
@[simp] theorem int_i {i : Int} : intD [.int i] S = .ok (.int i) S := id rfl
def repO : Option PyData → Sto → R D
  | some p, S => if fitP p = true then .ok (.str p.shown) S else .no
  | none, _ => .no
@[simp] theorem repO_s {p : PyData} : repO (some p) S = if fitP p = true then .ok (.str p.shown) S else .no := id rfl
@[simp] theorem repr_1 {d : D} : reprD [d] S = repO (toR S 1000 d) S := by
  simp only [reprD]
  generalize toR S 1000 d = o
  cases o <;> rfl
@[simp] theorem ne_s {x y : Str} : neD (.str x) (.str y) S = .ok (.bl (!decide (x = y))) S := id rfl
@[simp] theorem eq_s {x y : Str} : eqD (.str x) (.str y) S = .ok (.bl (decide (x = y))) S := id rfl
@[simp] theorem ev_pnil : pNil lv ρ S = .ok [] S := id rfl
def pcK3 (q : L2.Key) (y : D) : List (L2.Key × D) → Sto → R (List (L2.Key × D)) := fun m S => .ok ((q, y) :: m) S
@[simp] theorem pcK3_ap {q : L2.Key} {y : D} {m : List (L2.Key × D)} : pcK3 q y m S = .ok ((q, y) :: m) S := id rfl
def pcO (r : DenP) (lv : Lv) (ρ : Dv.Env) (y : D) : Option L2.Key → Sto → R (List (L2.Key × D))
  | some q, S => (r lv ρ S).bind (pcK3 q y)
  | none, _ => .no
@[simp] theorem pcO_s {r : DenP} {y : D} {q : L2.Key} : pcO r lv ρ y (some q) S = (r lv ρ S).bind (pcK3 q y) := id rfl
def pcK2 (r : DenP) (lv : Lv) (ρ : Dv.Env) (x : D) : D → Sto → R (List (L2.Key × D)) := fun y S => pcO r lv ρ y (kyD x) S
@[simp] theorem pcK2_ap {r : DenP} {x y : D} : pcK2 r lv ρ x y S = pcO r lv ρ y (kyD x) S := id rfl
def pcK1 (v : Den) (r : DenP) (lv : Lv) (ρ : Dv.Env) : D → Sto → R (List (L2.Key × D)) := fun x S => (v lv ρ S).bind (pcK2 r lv ρ x)
@[simp] theorem pcK1_ap {v : Den} {r : DenP} {x : D} : pcK1 v r lv ρ x S = (v lv ρ S).bind (pcK2 r lv ρ x) := id rfl
@[simp] theorem ev_pcons {k v : Den} {r : DenP} : pCons k v r lv ρ S = (k lv ρ S).bind (pcK1 v r lv ρ) := by
  unfold pCons
  congr 1; funext x S1
  simp only [pcK1_ap]
  congr 1; funext y S2
  simp only [pcK2_ap]
  cases kyD x <;> rfl
@[simp] theorem ky_s {x : Str} : kyD (.str x) = some (.inr x) := id rfl
@[simp] theorem ky_i {i : Int} : kyD (.int i) = some (.inl i) := id rfl
def diO (n : Nat) (m : List (L2.Key × D)) : Option O → Sto → R D
  | some (.dk []), S => if m.length ≤ 15 then .ok (.ref n) (S.set n (.dk (mergeD [] m))) else .no
  | _, _ => .no
@[simp] theorem diO_e {n : Nat} {m : List (L2.Key × D)} : diO n m (some (.dk [])) S = if m.length ≤ 15 then .ok (.ref n) (S.set n (.dk (mergeD [] m))) else .no := id rfl
def diK (n : Nat) : List (L2.Key × D) → Sto → R D := fun m S => diO n m S[n]? S
@[simp] theorem diK_ap {n : Nat} {m : List (L2.Key × D)} : diK n m S = diO n m S[n]? S := id rfl
@[simp] theorem ev_disp {p : DenP} : dDisp p lv ρ S = (p lv ρ (S ++ [.dk []])).bind (diK S.length) := by
  unfold dDisp
  congr 1; funext m S1
  simp only [diK_ap]
  generalize S1[S.length]? = o
  rcases o with _ | (_ | (_ | _) | _ | _ | _) <;> rfl
end
/-! ### the pen that is a dict -/
def penO (s a l : D) : List (L2.Key × D) := [(.inr "script", s), (.inr "at", a), (.inr "left", l)]
@[simp] theorem po_s {s a l : D} : valK (penO s a l) (.inr "script") = some s := id rfl
@[simp] theorem po_a {s a l : D} : valK (penO s a l) (.inr "at") = some a := id rfl
@[simp] theorem po_l {s a l : D} : valK (penO s a l) (.inr "left") = some l := id rfl
@[simp] theorem pu_a {s a l v : D} : setK (penO s a l) (.inr "at") v = penO s v l := id rfl
@[simp] theorem pu_l {s a l v : D} : setK (penO s a l) (.inr "left") v = penO s a v := id rfl
@[simp] theorem po_m {s a l : D} : mergeD [] [(.inr "script", s), (.inr "at", a), (.inr "left", l)] = penO s a l := id rfl
@[simp] theorem po_n {s a l : D} : (penO s a l).length = 3 := id rfl
def PenD (S : Sto) (r : Nat) : Prop := ∃ (s : Nat) (w : Bool) (ns : List Int) (a l : Int), S[r]? = some (.dk (penO (.ref s) (.int a) (.int l))) ∧ S[s]? = some (.lst w (ns.map D.int)) ∧ s < r ∧ ns.length ≤ 63 ∧ 0 ≤ a ∧ 0 ≤ l
structure EvD (r : Nat) (S S' : Sto) : Prop where
  kp : ∀ (j : Nat) o, j ≠ r → S[j]? = some o → S'[j]? = some o
  pn : PenD S' r
  ln : S.length ≤ S'.length
theorem PenD.lt {r : Nat} {S : Sto} (h : PenD S r) : r < S.length := by
  obtain ⟨_, _, _, _, _, e, _⟩ := h
  exact (List.getElem?_eq_some_iff.mp e).1
theorem PenD.keep {r : Nat} {S S' : Sto} (h : PenD S r) (hr : ∀ (j : Nat) o, S[j]? = some o → S'[j]? = some o) : PenD S' r := by
  obtain ⟨s, w, ns, a, l, e1, e2, q⟩ := h
  exact ⟨s, w, ns, a, l, hr _ _ e1, hr _ _ e2, q⟩
theorem EvD.refl {r : Nat} {S : Sto} (h : PenD S r) : EvD r S S := ⟨fun _ _ _ e => e, h, Nat.le_refl _⟩
theorem EvD.trans {r : Nat} {S1 S2 S3 : Sto} (a : EvD r S1 S2) (b : EvD r S2 S3) : EvD r S1 S3 := ⟨fun j o n e => b.kp j o n (a.kp j o n e), b.pn, Nat.le_trans a.ln b.ln⟩
theorem EvD.app {r : Nat} {S : Sto} (h : PenD S r) (T : Sto) : EvD r S (S ++ T) := by
  have kp : ∀ (j : Nat) o, S[j]? = some o → (S ++ T)[j]? = some o := fun j o e => by rw [List.getElem?_append_left (List.getElem?_eq_some_iff.mp e).1]; exact e
  exact ⟨fun j o _ e => kp j o e, h.keep kp, by simp⟩
theorem EvD.app' {r : Nat} {S S' : Sto} (h : EvD r S S') (T : Sto) : EvD r S (S' ++ T) := h.trans (EvD.app h.pn T)
/-- something that is new since S is written -/
theorem EvD.put {r l : Nat} {S S' : Sto} {o : O} (h : EvD r S S') (hp : PenD S r) (hl : S.length ≤ l) : EvD r S (S'.set l o) := by
  have hr := hp.lt
  refine ⟨fun j u n e => ?_, ?_, by rw [List.length_set]; exact h.ln⟩
  · have hj := (List.getElem?_eq_some_iff.mp e).1
    rw [List.getElem?_set_ne (by omega)]
    exact h.kp j u n e
  · obtain ⟨s, w, ns, a, b, e1, e2, q1, q⟩ := h.pn
    exact ⟨s, w, ns, a, b, by rw [List.getElem?_set_ne (by omega)]; exact e1, by rw [List.getElem?_set_ne (by omega)]; exact e2, q1, q⟩
theorem EvD.kps {r : Nat} {S S' : Sto} (h : EvD r S S') (hp : PenD S r) : Kps S S' := by
  obtain ⟨s, w, ns, a, l, e1, _⟩ := hp
  refine ⟨fun j b xs e => h.kp j _ (fun z => ?_) e, fun j e => h.kp j _ (fun z => ?_) e⟩
  · subst z; rw [e1] at e; cases e
  · subst z; rw [e1] at e; cases e
end Dv

namespace Dv
open PySem PySem.Spec PyProof.Rows L2
section
variable {bs : Bodies} {m : Nat} {S : Sto}
end
end Dv

namespace Dv
open PySem PySem.Spec PyProof.Rows L2
/-- two small numbers -/
def BP (y : D) : Prop := ∃ i j : Int, y = .tup [.int i, .int j] ∧ 0 ≤ i ∧ i ≤ 8 ∧ 0 ≤ j ∧ j ≤ 8
def AllB (ts : List D) : Prop := ∀ x ∈ ts, BP x
theorem AllB.app {xs ys : List D} (a : AllB xs) (b : AllB ys) : AllB (xs ++ ys) := fun y hy => (List.mem_append.mp hy).elim (a y) (b y)
theorem AllB.nil : AllB [] := fun _ h => nomatch h
theorem AllB.one {i j : Int} (h : 0 ≤ i ∧ i ≤ 8 ∧ 0 ≤ j ∧ j ≤ 8) : AllB [.tup [.int i, .int j]] := fun y hy => by rw [List.mem_singleton.mp hy]; exact ⟨i, j, rfl, h⟩
theorem AllB.pr {xs : List D} (h : AllB xs) : AllPr xs := fun y hy => by
  obtain ⟨i, j, rfl, _⟩ := h y hy
  rfl
theorem cut_mem {xs : List D} {lo hi : Option Int} {x : D} (h : x ∈ cutD xs lo hi) : x ∈ xs := List.mem_of_mem_drop (List.mem_of_mem_take h)
def pI (S : Sto) (r L l : Nat) (zs : List D) (T : Sto) : Prop := EvD r S T ∧ ∃ acc ys, T[L]? = some (.lst true acc) ∧ AllB acc ∧ T[l]? = some (.lst true ys) ∧ AllB ys ∧ acc.length + ys.length ≤ 64 ∧ zs.length ≤ ys.length
def mulO (k : Int) : Option O → Sto → R D
  | some (.lst true xs), S => if k ≤ 1000 ∧ -1000 ≤ k ∧ xs.length ≤ 1000 then .ok (.ref S.length) (S ++ [.lst true (List.replicate k.toNat xs).flatten]) else .no
  | _, _ => .no
@[simp] theorem mulO_l {k : Int} {xs : List D} {S : Sto} : mulO k (some (.lst true xs)) S = if k ≤ 1000 ∧ -1000 ≤ k ∧ xs.length ≤ 1000 then .ok (.ref S.length) (S ++ [.lst true (List.replicate k.toNat xs).flatten]) else .no := id rfl
@[simp] theorem mul_r {i : Nat} {k : Int} {S : Sto} : mulD (.ref i) (.int k) S = mulO k S[i]? S := by
  simp only [mulD]
  generalize S[i]? = o
  rcases o with _ | (⟨_ | _, _⟩ | _ | _ | _ | _) <;> rfl
section
variable {bs : Bodies} {m iD r most : Nat} {S : Sto} {n w : Int}
end
end Dv

namespace Dv
open PySem PySem.Spec PyProof.Rows L2
/-- a truth or None -/
def KN (x : D) : Prop := x = .non ∨ ∃ b, x = .bl b
def AllK (xs : List D) : Prop := ∀ x ∈ xs, KN x
theorem AllK.app {xs ys : List D} (a : AllK xs) (b : AllK ys) : AllK (xs ++ ys) := fun y hy => (List.mem_append.mp hy).elim (a y) (b y)
section
variable {bs : Bodies} {m iD r : Nat} {S : Sto}
end
end Dv

namespace Dv
open PySem PySem.Spec PyProof.Rows L2
@[simp] theorem items_l {l : Nat} {w : Bool} {xs : List D} : (Src.lst l w xs).items = xs := id rfl
@[simp] theorem items_t {xs : List D} : (Src.tup xs).items = xs := id rfl
@[simp] theorem items_z {xs ys : List D} : (Src.zipT xs ys).items = (xs.zip ys).map pr2 := id rfl
/-! ### a comprehension whose parts have no effect -/
theorem lc_pure {T : Sto} {chk : Sto → Prop} {t : Tg} {cond : Dv.Env → Sto → R Bool} {elt : Dv.Env → Sto → R D} {ρ : Dv.Env} {p : D → Bool} {g : D → D} (hc : ∀ acc, chk (T ++ [.lst true acc])) :
    ∀ {xs acc : List D}, (∀ x ∈ xs, ∃ ρ1, tgD t x ρ = some ρ1 ∧ ∀ acc, cond ρ1 (T ++ [.lst true acc]) = .ok (p x) (T ++ [.lst true acc]) ∧ (p x = true → elt ρ1 (T ++ [.lst true acc]) = .ok (g x) (T ++ [.lst true acc]))) → acc.length + xs.length < mx →
      lcGo T.length chk t cond elt ρ xs (T ++ [.lst true acc]) = .ok (.ref T.length) (T ++ [.lst true (acc ++ (xs.filter p).map g)])
  | [], acc, _, _ => by
    unfold lcGo
    rw [if_pos (hc acc)]
    simp
  | x :: xs, acc, h, hl => by
    obtain ⟨ρ1, h1, h2⟩ := h x List.mem_cons_self
    obtain ⟨h3, h4⟩ := h2 acc
    rw [List.length_cons] at hl
    unfold lcGo
    rw [if_pos (hc acc)]
    simp only [h1, h3, quiet_ok, R.bind_ok]
    cases hp : p x with
    | false =>
      rw [if_neg (by decide), lc_pure hc (fun y hy => h y (List.mem_cons_of_mem _ hy)) (by omega)]
      rw [List.filter_cons_of_neg (by rw [hp]; decide)]
    | true =>
      rw [if_pos rfl]
      simp only [h4 hp, quiet_ok, R.bind_ok]
      have e : (T ++ [O.lst true acc])[T.length]? = some (.lst true acc) := by simp
      simp only [e]
      rw [if_pos (by omega)]
      have e2 : (T ++ [O.lst true acc]).set T.length (.lst true (acc ++ [g x])) = T ++ [.lst true (acc ++ [g x])] := by simp
      rw [e2, lc_pure hc (fun y hy => h y (List.mem_cons_of_mem _ hy)) (by rw [List.length_append, List.length_singleton]; omega)]
      rw [List.filter_cons_of_pos hp]
      simp
/-! ### in, of pairs -/
def prP : D → PyData
  | .tup [.int i, .int j] => .tuple [.int i, .int j]
  | _ => .none
def inW (t : D) (ws : List D) : Bool := ws.any fun y => decide (keyD y = keyD t)
theorem toP_bp {S : Sto} {n : Nat} {y : D} (h : BP y) : toP S (n + 5) y = some (prP y) := by
  obtain ⟨i, j, rfl, _⟩ := h
  simp [toP, toPs, prP]
theorem toPs_bp {S : Sto} {n : Nat} : ∀ {ws : List D}, AllB ws → toPs S (n + 5 + ws.length) ws = some (ws.map prP)
  | [], _ => by simp [toPs]
  | y :: ws, h => by
    rw [List.length_cons, show n + 5 + (ws.length + 1) = (n + 5 + ws.length) + 1 from by omega]
    unfold toPs
    rw [show n + 5 + ws.length = (n + ws.length) + 5 from by omega, toP_bp (h y List.mem_cons_self), show (n + ws.length) + 5 = n + 5 + ws.length from by omega, toPs_bp fun x hx => h x (List.mem_cons_of_mem _ hx)]
    rfl
theorem eqv_pr {x y : D} (hx : BP x) (hy : BP y) : PyData.eqv (prP x) (prP y) = decide (keyD x = keyD y) := by
  obtain ⟨i, j, rfl, _⟩ := hx
  obtain ⟨k, l, rfl, _⟩ := hy
  simp [prP, PyData.eqv, PyData.eqvAll, keyD]
  by_cases h1 : i = k <;> by_cases h2 : j = l <;> simp [h1, h2]
theorem shp_pr {y : D} (h : BP y) : SeqAt.shaped (prP y) = true := by
  obtain ⟨i, j, rfl, _⟩ := h
  simp [prP, SeqAt.shaped, PyData.canLay0, PyData.canLayAll0, PyData.depth, PyData.depthAll]
theorem shp_prs : ∀ {ws : List D}, AllB ws → PyData.canLayAll0 (ws.map prP) = true ∧ PyData.depthAll (ws.map prP) ≤ 1
  | [], _ => by simp [PyData.canLayAll0, PyData.depthAll]
  | y :: ws, h => by
    obtain ⟨a, b⟩ := shp_prs fun x hx => h x (List.mem_cons_of_mem _ hx)
    obtain ⟨i, j, rfl, _⟩ := h y List.mem_cons_self
    simp [prP, PyData.canLayAll0, PyData.canLay0, PyData.depthAll, PyData.depth, a]
    omega
theorem any_pr {t : D} (ht : BP t) : ∀ {ws : List D}, AllB ws → ((ws.map prP).any fun z => PyData.eqv z (prP t)) = inW t ws
  | [], _ => rfl
  | y :: ws, h => by
    simp only [List.map_cons, List.any_cons, inW]
    rw [eqv_pr (h y List.mem_cons_self) ht]
    have := any_pr ht fun x hx => h x (List.mem_cons_of_mem _ hx)
    unfold inW at this
    rw [this]
theorem inB_pr {S : Sto} {t : D} {ws : List D} (ht : BP t) (hw : AllB ws) (hl : ws.length ≤ 900) : inB t (.tup ws) S = some (inW t ws) := by
  have e1 : toP S 1000 t = some (prP t) := toP_bp (n := 995) ht
  have e2 : toP S 1000 (.tup ws) = some (.tuple (ws.map prP)) := by
    have e := toPs_bp (S := S) (n := 994 - ws.length) hw
    rw [show 994 - ws.length + 5 + ws.length = 999 from by omega] at e
    unfold toP
    rw [e]; rfl
  obtain ⟨a, b⟩ := shp_prs hw
  have s2 : SeqAt.shaped (.tuple (ws.map prP)) = true := by
    simp [SeqAt.shaped, PyData.canLay0, PyData.depth, a]; omega
  have ed : dkD (.tup ws) S = none := rfl
  unfold inB
  rw [ed, e1, e2]
  simp only
  rw [if_pos ⟨shp_pr ht, s2⟩, any_pr ht hw]
theorem in_pr {S : Sto} {t : D} {ws : List D} (ht : BP t) (hw : AllB ws) (hl : ws.length ≤ 900) : inD t (.tup ws) S = .ok (.bl (inW t ws)) S := by
  unfold inD; rw [inB_pr ht hw hl]
/-! ### all webs -/
noncomputable def websF : DenS := (sSeq (sAsg (.nm 1) (dLst (dCons (dTup dNil) dNil)))
    (sSeq (sFor (iVal (dOp ixD (dVar 0) (dC (.int 1)))) (.nm 2) (sAsg (.nm 1) (dOp addD (dVar 1) (dLc (iVal (dVar 1)) (.nm 3) tYesD (dOp addD (dVar 3) (dTup (dCons (dVar 2) dNil))) [3]))))
    (sRet (dVar 1))))
/-- only new things -/
structure Gw (S T : Sto) : Prop where
  kp : ∀ (j : Nat) o, S[j]? = some o → T[j]? = some o
  ln : S.length ≤ T.length
theorem Gw.refl {S : Sto} : Gw S S := ⟨fun _ _ e => e, Nat.le_refl _⟩
theorem Gw.trans {S T V : Sto} (a : Gw S T) (b : Gw T V) : Gw S V := ⟨fun j o e => b.kp j o (a.kp j o e), Nat.le_trans a.ln b.ln⟩
theorem Gw.app {S : Sto} (V : Sto) : Gw S (S ++ V) := ⟨fun j o e => by rw [List.getElem?_append_left (List.getElem?_eq_some_iff.mp e).1]; exact e, by simp⟩
theorem Gw.put {S T : Sto} {l : Nat} {o : O} (h : Gw S T) (hl : S.length ≤ l) : Gw S (T.set l o) := by
  refine ⟨fun j u e => ?_, by rw [List.length_set]; exact h.ln⟩
  have hj := (List.getElem?_eq_some_iff.mp e).1
  rw [List.getElem?_set_ne (by omega)]
  exact h.kp j u e
theorem Gw.kps {S T : Sto} (h : Gw S T) : Kps S T := ⟨fun j b xs e => h.kp j _ e, fun j e => h.kp j _ e⟩
end Dv

namespace Dv
open PySem PySem.Spec PyProof.Rows L2
def noB : D → Bool
  | .non => true
  | _ => false
def isB (b : Bool) : D → Bool
  | .bl a => decide (a = b)
  | _ => false
section
variable {S : Sto}
@[simp] theorem is_no {d : D} : isND d .non S = .ok (.bl (noB d)) S := by cases d <;> rfl
@[simp] theorem isn_no {d : D} : isnD d .non S = .ok (.bl (!noB d)) S := by cases d <;> rfl
@[simp] theorem is_bb {d : D} {b : Bool} : isND d (.bl b) S = .ok (.bl (isB b d)) S := by cases d <;> rfl
@[simp] theorem isn_bb {d : D} {b : Bool} : isnD d (.bl b) S = .ok (.bl (!isB b d)) S := by cases d <;> rfl
@[simp] theorem eq_bb {a b : Bool} : eqD (.bl a) (.bl b) S = .ok (.bl (decide (a = b))) S := id rfl
@[simp] theorem ziK_2 {x y : D} : ziK [x, y] S = srcR (zipS x y S) S := id rfl
@[simp] theorem zip_tt {xs ys : List D} : zipS (.tup xs) (.tup ys) S = some (.zipT xs ys) := id rfl
@[simp] theorem srcR_s {s : Src} : srcR (some s) S = .ok s S := id rfl
@[simp] theorem ev_zip {a : DenA} {lv : Lv} {ρ : Dv.Env} : iZip2 a lv ρ S = (a lv ρ S).bind ziK := id rfl
@[simp] theorem tg_p2 {i j : Nat} {ρ : Dv.Env} {p : D × D} : tgD (.tp [i, j]) (pr2 p) ρ = some ((ρ.set i (some p.1)).set j (some p.2)) := id rfl
end
/-! ### what fits -/
/-! ### webs are of ties -/
theorem Tng.small {S : Sto} {c : Bool} {i : Int} (h : i.natAbs < 16) : Tng S c 1 0 5 (.int i) := by
  obtain ⟨p, e, a, b, x, y, z⟩ := Tng.int (S := S) (c := c) (i := i) (by omega)
  cases e
  refine ⟨.int i, rfl, a, b, ?_, y, z⟩
  have hl : i.natAbs.log2 < 4 := by
    by_cases h0 : i.natAbs = 0
    · rw [h0]; decide
    · exact (Nat.log2_lt h0).mpr (by omega)
  simp only [PyData.weight]
  split <;> omega
end Dv

namespace Dv
open PySem PySem.Spec PyProof.Rows L2
/-! ### webs by their numbers -/
def wbK : List D → Nat → List D
  | [], _ => []
  | t :: ts, k => (if k % 2 = 1 then [t] else []) ++ wbK ts (k / 2)
/-! ### a generator whose parts have no effect -/
/-! ### number_of, missing -/
noncomputable def numberF : DenS := (sSeq (sAsg (.nm 2) (dC (.int 0)))
    (sSeq (sAsg (.nm 3) (dC (.int 1)))
    (sSeq (sFor (iVal (dOp ixD (dVar 0) (dC (.int 1)))) (.nm 4) (sSeq (sIf (dBl (dOp inD (dVar 4) (dVar 1))) (sAug 2 iaddD (dVar 3)) sNil)
    (sAug 3 imulD (dC (.int 2)))))
    (sRet (dVar 2)))))
noncomputable def missF : DenS := (sRet (dTg (iVal (dOp ixD (dVar 0) (dC (.int 1)))) (.nm 2) (dBl (dOp ninD (dVar 2) (dVar 1))) (dVar 2) [2]))
section
variable {S : Sto} {lv : Lv} {ρ : Dv.Env}
@[simp] theorem iadd_i {i j : Int} : iaddD (.int i) (.int j) S = .ok (.int (i + j)) S := id rfl
@[simp] theorem imul_i {i j : Int} : imulD (.int i) (.int j) S = if (-18446744073709551616 < i ∧ i < 18446744073709551616) ∨ (-18446744073709551616 < j ∧ j < 18446744073709551616) then .ok (.int (i * j)) S else .no := id rfl
def auK2 (i : Nat) (ρ : Dv.Env) : D → Sto → R Fl := fun z S => .ok (.nx (ρ.set i (some z))) S
@[simp] theorem auK2_ap {i : Nat} {z : D} : auK2 i ρ z S = .ok (.nx (ρ.set i (some z))) S := id rfl
def auK1 (i : Nat) (o : Op2) (x : D) (ρ : Dv.Env) : D → Sto → R Fl := fun y S => (quiet (o x y S)).bindS ρ (auK2 i ρ)
@[simp] theorem auK1_ap {i : Nat} {o : Op2} {x y : D} : auK1 i o x ρ y S = (quiet (o x y S)).bindS ρ (auK2 i ρ) := id rfl
def auO (i : Nat) (o : Op2) (e : Den) (lv : Lv) (ρ : Dv.Env) : Option (Option D) → Sto → R Fl
  | some (some x), S => (e lv ρ S).bindS ρ (auK1 i o x ρ)
  | _, _ => .no
@[simp] theorem auO_s {i : Nat} {o : Op2} {e : Den} {x : D} : auO i o e lv ρ (some (some x)) S = (e lv ρ S).bindS ρ (auK1 i o x ρ) := id rfl
@[simp] theorem ev_aug {i : Nat} {o : Op2} {e : Den} : sAug i o e lv ρ S = auO i o e lv ρ ρ[i]? S := by
  simp only [sAug]
  generalize ρ[i]? = q
  rcases q with _ | (_ | _) <;> rfl
@[simp] theorem tgK_ap {ys : List D} : tgK ys S = if ys.length ≤ mx then .ok (.tup ys) S else .no := id rfl
noncomputable def tgG (t : Tg) (ta : DenT) (a : Den) (vs : List Nat) (lv : Lv) (ρ : Dv.Env) : Src → Sto → R D := fun src S => (glGo src.chk t (ta lv.dn) (a lv.dn) (wipeE ρ vs) src.items [] S).bind tgK
@[simp] theorem tgG_ap {t : Tg} {ta : DenT} {a : Den} {vs : List Nat} {src : Src} : tgG t ta a vs lv ρ src S = (glGo src.chk t (ta lv.dn) (a lv.dn) (wipeE ρ vs) src.items [] S).bind tgK := id rfl
@[simp] theorem ev_tg {di : DenI} {t : Tg} {ta : DenT} {a : Den} {vs : List Nat} : dTg di t ta a vs lv ρ S = (di lv ρ S).bind (tgG t ta a vs lv ρ) := id rfl
end
section
variable {bs : Bodies} {m i : Nat} {S : Sto} {n : D} {ts : List D} {k : Nat}
end
end Dv

namespace Dv
open PySem PySem.Spec PyProof.Rows L2
/-! ### things that are alike -/
mutual
theorem toP_le {S : Sto} : ∀ {n k : Nat} {d : D} {p : PyData}, n ≤ k → toP S n d = some p → toP S k d = some p
  | 0, _, _, _, _, e => by cases e
  | n + 1, 0, _, _, h, _ => by omega
  | n + 1, k + 1, d, p, h, e => by
    cases d with
    | tup ds =>
      unfold toP at e ⊢
      obtain ⟨ps, e1, rfl⟩ := Option.map_eq_some_iff.mp e
      rw [toPs_le (by omega) e1]; rfl
    | ref i =>
      unfold toP at e ⊢
      split at e
      · rename_i b ds e0
        obtain ⟨ps, e1, rfl⟩ := Option.map_eq_some_iff.mp e
        rw [toPs_le (by omega) e1]; rfl
      · cases e
    | _ => exact e
theorem toPs_le {S : Sto} : ∀ {n k : Nat} {ds : List D} {ps : List PyData}, n ≤ k → toPs S n ds = some ps → toPs S k ds = some ps
  | n, k, [], ps, h, e => by
    have : ps = [] := by cases n <;> (cases e; rfl)
    subst this
    cases k <;> rfl
  | 0, _, _ :: _, _, _, e => by cases e
  | n + 1, 0, _ :: _, _, h, _ => by omega
  | n + 1, k + 1, d :: ds, ps, h, e => by
    unfold toPs at e ⊢
    split at e
    · rename_i p qs e1 e2
      cases e
      rw [toP_le (by omega) e1, toPs_le (by omega) e2]
    · cases e
end
def Shp (S : Sto) (f k : Nat) (d : D) : Prop := ∃ p, toP S f d = some p ∧ p.canLay0 = true ∧ p.depth ≤ k
theorem Shp.up {S : Sto} {f k f' k' : Nat} {d : D} (h : Shp S f k d) (h1 : f ≤ f') (h2 : k ≤ k') : Shp S f' k' d := by
  obtain ⟨p, e, a, b⟩ := h
  exact ⟨p, toP_le h1 e, a, by omega⟩
theorem Shp.int {S : Sto} {i : Int} : Shp S 1 0 (.int i) := ⟨.int i, rfl, by simp [PyData.canLay0], by simp [PyData.depth]⟩
theorem shps {S : Sto} {f k : Nat} : ∀ {ds : List D}, (∀ d ∈ ds, Shp S f k d) → ∃ ps, toPs S (f + ds.length) ds = some ps ∧ PyData.canLayAll0 ps = true ∧ PyData.depthAll ps ≤ k
  | [], _ => ⟨[], by cases f <;> rfl, by simp [PyData.canLayAll0], by simp [PyData.depthAll]⟩
  | d :: ds, h => by
    obtain ⟨p, e, a1, a2⟩ := h d List.mem_cons_self
    obtain ⟨ps, es, b1, b2⟩ := shps (ds := ds) fun x hx => h x (List.mem_cons_of_mem _ hx)
    refine ⟨p :: ps, ?_, ?_, ?_⟩
    · rw [List.length_cons, show f + (ds.length + 1) = (f + ds.length) + 1 from by omega]
      unfold toPs
      rw [toP_le (show f ≤ f + ds.length by omega) e, es]
    · simp only [PyData.canLayAll0, a1, b1, Bool.and_self]
    · simp only [PyData.depthAll]; omega
theorem Shp.tup {S : Sto} {f k n : Nat} {ds : List D} (h : ∀ d ∈ ds, Shp S f k d) (hn : ds.length ≤ n) : Shp S (f + n + 1) (k + 1) (.tup ds) := by
  obtain ⟨ps, e, b1, b2⟩ := shps h
  refine ⟨.tuple ps, ?_, ?_, ?_⟩
  · unfold toP
    rw [toPs_le (show f + ds.length ≤ f + n by omega) e]; rfl
  · simpa [PyData.canLay0] using b1
  · simp only [PyData.depth]; omega
theorem Shp.lst {S : Sto} {f k n i : Nat} {b : Bool} {ds : List D} (hi : S[i]? = some (.lst b ds)) (h : ∀ d ∈ ds, Shp S f k d) (hn : ds.length ≤ n) : Shp S (f + n + 1) (k + 1) (.ref i) := by
  obtain ⟨ps, e, b1, b2⟩ := shps h
  refine ⟨.list ps, ?_, ?_, ?_⟩
  · unfold toP
    rw [hi]
    simp only
    rw [toPs_le (show f + ds.length ≤ f + n by omega) e]; rfl
  · simpa [PyData.canLay0] using b1
  · simp only [PyData.depth]; omega
/-! ### the pen that is a list, and only new things -/
theorem Gw.ev {S T : Sto} {r : Nat} (h : Gw S T) (hp : Pen S r) : Ev r S T := by
  obtain ⟨a, b, h0, e⟩ := hp
  exact ⟨fun j o _ e => h.kp j o e, ⟨a, b, h0, h.kp _ _ e⟩, h.ln⟩
theorem tie_bp {n : Int} {y : D} (h : isTie n y = true) (hn : n ≤ 8) : BP y := by
  unfold isTie at h
  split at h
  · rename_i i j
    simp only [Bool.and_eq_true, decide_eq_true_eq] at h
    exact ⟨i, j, rfl, by omega, by omega, by omega, by omega⟩
  · cases h
end Dv

namespace Dv
open PySem PySem.Spec PyProof.Rows L2
/-! ### refusals that are kept, reasoned about -/
section
variable {lv : Lv} {ρ : Dv.Env} {S : Sto} {m i j c : Nat} {q qn : Nat → Bool} {nm : Nat → Str} {a : Den} {b : DenS} {x : Str} {d : D}
@[simp] theorem ev_tryK : sTryK m q nm i j b lv ρ S = keepK m q nm i j (b lv ρ S) := id rfl
@[simp] theorem keep_nx : keepK m q nm i j (.ok (.nx ρ) S) = .ok (.nx ρ) S := id rfl
@[simp] theorem keep_rt : keepK m q nm i j (.ok (.rt d) S) = .ok (.rt d) S := id rfl
@[simp] theorem keep_xc : keepK m q nm i j (.ok (.xc c ρ) S) = if q c = true then (if i < ρ.length ∧ c < m then .ok (.nx (((ρ.set i (some (.ref S.length))).set j (some (.ref S.length))).set i none)) (S ++ [.xc (nm c) c]) else .no) else .ok (.xc c ρ) S := id rfl
@[simp] theorem ev_isx : dIsx m qn nm a lv ρ S = (a lv ρ S).bind (isxK m qn nm) := id rfl
@[simp] theorem isxK_r : isxK m qn nm (.ref i) S = xcK m qn nm S S[i]? := id rfl
@[simp] theorem xcK_x : xcK m qn nm S (some (.xc x j)) = if nm j = x ∧ j < m then .ok (.bl (qn j)) S else .no := id rfl
@[simp] theorem bool_i {k : Int} : boolD [.int k] S = .ok (.bl (k != 0)) S := id rfl
@[simp] theorem bool_b {v : Bool} : boolD [.bl v] S = .ok (.bl v) S := id rfl
@[simp] theorem str_i {k : Int} : strD [.int k] S = if -1000000000000000000 < k ∧ k < 1000000000000000000 then .ok (.str (toString k)) S else .no := id rfl
theorem R.wp_getx {x : R D} {P : Nat → Sto → Prop} (h : x.wp (fun _ _ => False) P) : ∃ c S, x = .ex c S ∧ P c S := by
  cases x with
  | ok a S => exact h.elim
  | ex c S => exact ⟨c, S, rfl, h⟩
  | no => exact h.elim
end
end Dv

/-! ### places that ties lead to one another -/
namespace Df
abbrev Ed := List (Int × Int)
def Adj (E : Ed) (a b : Int) : Prop := (a, b) ∈ E ∨ (b, a) ∈ E
inductive Rch (E : Ed) (a : Int) : Int → Prop
  | refl : Rch E a a
  | step {b c : Int} : Rch E a b → Adj E b c → Rch E a c
theorem Adj.symm {E : Ed} {a b : Int} (h : Adj E a b) : Adj E b a := h.elim .inr .inl
theorem Rch.trans {E : Ed} {a b c : Int} (h : Rch E a b) (k : Rch E b c) : Rch E a c := by
  induction k with
  | refl => exact h
  | step _ s ih => exact .step ih s
theorem Rch.one {E : Ed} {a b : Int} (h : Adj E a b) : Rch E a b := .step .refl h
theorem Rch.symm {E : Ed} {a b : Int} (h : Rch E a b) : Rch E b a := by
  induction h with
  | refl => exact .refl
  | step _ s ih => exact (Rch.one s.symm).trans ih
theorem Rch.mono {E F : Ed} (hs : ∀ e ∈ E, e ∈ F) {a b : Int} (h : Rch E a b) : Rch F a b := by
  induction h with
  | refl => exact .refl
  | step _ s ih => exact .step ih (s.imp (hs _) (hs _))
/-- one tie more -/
theorem rch_more {E : Ed} {x y a b : Int} : Rch (E ++ [(x, y)]) a b ↔ Rch E a b ∨ (Rch E a x ∧ Rch E y b) ∨ (Rch E a y ∧ Rch E x b) := by
  have up : ∀ {c d : Int}, Rch E c d → Rch (E ++ [(x, y)]) c d := fun h => h.mono fun e he => List.mem_append_left _ he
  have ed : Adj (E ++ [(x, y)]) x y := .inl (List.mem_append_right _ (List.mem_singleton.mpr rfl))
  constructor
  · intro h
    induction h with
    | refl => exact .inl .refl
    | @step b c _ s ih =>
      have s' : Adj E b c ∨ (b = x ∧ c = y) ∨ (b = y ∧ c = x) := by
        rcases s with s | s <;> rcases List.mem_append.mp s with s | s
        · exact .inl (.inl s)
        · have e := List.mem_singleton.mp s; cases e; exact .inr (.inl ⟨rfl, rfl⟩)
        · exact .inl (.inr s)
        · have e := List.mem_singleton.mp s; cases e; exact .inr (.inr ⟨rfl, rfl⟩)
      rcases s' with s | ⟨rfl, rfl⟩ | ⟨rfl, rfl⟩
      · rcases ih with h | ⟨h1, h2⟩ | ⟨h1, h2⟩
        · exact .inl (.step h s)
        · exact .inr (.inl ⟨h1, .step h2 s⟩)
        · exact .inr (.inr ⟨h1, .step h2 s⟩)
      · rcases ih with h | ⟨h1, h2⟩ | ⟨h1, h2⟩
        · exact .inr (.inl ⟨h, .refl⟩)
        · exact .inr (.inl ⟨h1, .refl⟩)
        · exact .inl h1
      · rcases ih with h | ⟨h1, h2⟩ | ⟨h1, h2⟩
        · exact .inr (.inr ⟨h, .refl⟩)
        · exact .inl h1
        · exact .inr (.inr ⟨h1, .refl⟩)
  · rintro (h | ⟨h1, h2⟩ | ⟨h1, h2⟩)
    · exact up h
    · exact ((up h1).trans (.one ed)).trans (up h2)
    · exact ((up h1).trans (.one ed.symm)).trans (up h2)
/-- marks: the least of each part -/
structure Mk (E : Ed) (n : Nat) (f : Nat → Int) : Prop where
  rg : ∀ i, i < n → 0 ≤ f i ∧ f i < n
  rc : ∀ i, i < n → Rch E (i : Int) (f i)
  lo : ∀ i j, i < n → j < n → Rch E (i : Int) (j : Int) → f i ≤ (j : Int)
theorem Mk.eq {E : Ed} {n : Nat} {f : Nat → Int} (h : Mk E n f) {i j : Nat} (hi : i < n) (hj : j < n) : f i = f j ↔ Rch E (i : Int) (j : Int) := by
  constructor
  · intro e
    have := (h.rc j hj).symm
    rw [← e] at this
    exact (h.rc i hi).trans this
  · intro r
    have a1 := h.rg i hi
    have a2 := h.rg j hj
    have e1 : ((f i).toNat : Int) = f i := Int.toNat_of_nonneg a1.1
    have e2 : ((f j).toNat : Int) = f j := Int.toNat_of_nonneg a2.1
    have l1 := h.lo i (f j).toNat hi (by omega) (by rw [e2]; exact r.trans (h.rc j hj))
    have l2 := h.lo j (f i).toNat hj (by omega) (by rw [e1]; exact r.symm.trans (h.rc i hi))
    omega
/-- a tie more: the greater mark becomes the lesser one -/
theorem Mk.more {E : Ed} {n : Nat} {f : Nat → Int} (h : Mk E n f) {x y : Nat} (hx : x < n) (hy : y < n) : Mk (E ++ [((x : Int), (y : Int))]) n fun i => if f i = max (f x) (f y) then min (f x) (f y) else f i := by
  have up : ∀ {c d : Int}, Rch E c d → Rch (E ++ [((x : Int), (y : Int))]) c d := fun h => h.mono fun e he => List.mem_append_left _ he
  have ed : Rch (E ++ [((x : Int), (y : Int))]) x y := .one (.inl (List.mem_append_right _ (List.mem_singleton.mpr rfl)))
  have fx := h.rg x hx
  have fy := h.rg y hy
  have xy : Rch (E ++ [((x : Int), (y : Int))]) (f x) (f y) := ((up (h.rc x hx)).symm.trans ed).trans (up (h.rc y hy))
  refine ⟨fun i hi => ?_, fun i hi => ?_, fun i j hi hj r => ?_⟩
  · have := h.rg i hi
    split <;> omega
  · have ri := up (h.rc i hi)
    split
    · rename_i c
      rcases Int.le_total (f x) (f y) with le | le
      · rw [Int.min_eq_left le]
        rw [Int.max_eq_right le] at c
        rw [c] at ri
        exact ri.trans xy.symm
      · rw [Int.min_eq_right le]
        rw [Int.max_eq_left le] at c
        rw [c] at ri
        exact ri.trans xy
    · exact ri
  · have key : f i ≤ (j : Int) ∨ (f i = f x ∧ f y ≤ (j : Int)) ∨ (f i = f y ∧ f x ≤ (j : Int)) := by
      rcases rch_more.mp r with r | ⟨r1, r2⟩ | ⟨r1, r2⟩
      · exact .inl (h.lo i j hi hj r)
      · exact .inr (.inl ⟨(h.eq hi hx).mpr r1, h.lo y j hy hj r2⟩)
      · exact .inr (.inr ⟨(h.eq hi hy).mpr r1, h.lo x j hx hj r2⟩)
    split <;> omega
/-- nodup within another list -/
theorem nd_len {α : Type} [DecidableEq α] : ∀ {l m : List α}, l.Nodup → (∀ x ∈ l, x ∈ m) → l.length ≤ m.length
  | [], _, _, _ => by simp
  | a :: l, m, hn, hs => by
    obtain ⟨h1, h2⟩ := List.nodup_cons.mp hn
    have ha := hs a List.mem_cons_self
    have := nd_len (l := l) (m := m.erase a) h2 fun x hx => by
      have ne : x ≠ a := fun e => h1 (by rw [← e]; exact hx)
      exact (List.mem_erase_of_ne ne).mpr (hs x (List.mem_cons_of_mem _ hx))
    rw [List.length_erase_of_mem ha] at this
    have pos := List.length_pos_of_mem ha
    rw [List.length_cons]; omega
/-- a way, without a place twice -/
inductive Pth (E : Ed) (s : Int) : Int → List Int → Prop
  | nil : Pth E s s [s]
  | snoc {b c : Int} {p : List Int} : Pth E s b p → Adj E b c → c ∉ p → Pth E s c (p ++ [c])
theorem Pth.nd {E : Ed} {s k : Int} {p : List Int} (h : Pth E s k p) : p.Nodup := by
  induction h with
  | nil => simp
  | snoc h a n ih => exact List.nodup_append.mpr ⟨ih, by simp, fun x hx y hy e => n (by rw [← List.mem_singleton.mp hy, ← e]; exact hx)⟩
theorem Pth.pos {E : Ed} {s k : Int} {p : List Int} (h : Pth E s k p) : 1 ≤ p.length := by
  cases h <;> simp
/-- along a way the sides change -/
theorem Pth.par {E : Ed} {s k : Int} {p : List Int} {c : Int → Int} (hc : ∀ x, c x = 0 ∨ c x = 1) (he : ∀ a b, Adj E a b → c a ≠ c b) (h : Pth E s k p) : c k = (c s + (p.length - 1 : Int)) % 2 := by
  induction h with
  | nil => rcases hc s with h | h <;> simp [h]
  | @snoc b d p h a n ih =>
    have h1 := he b d a
    rw [List.length_append, List.length_singleton]
    rcases hc b with hb | hb <;> rcases hc d with hd | hd <;> omega
end Df

namespace Dv
open PySem PySem.Spec PyProof.Rows L2 Df
/-! ### while -/
@[simp] theorem ev_while {n : Nat} {c : DenT} {b : DenS} {lv : Lv} {ρ : Dv.Env} {S : Sto} : sWhile n c b lv ρ S = whGo (c lv) (b lv) n ρ S := id rfl
/-! ### near -/
def nearL : Ed → Int → List Int
  | [], _ => []
  | (a, b) :: E, p => ((if a = p then [b] else []) ++ (if b = p then [a] else [])) ++ nearL E p
noncomputable def nearF : DenS := (sSeq (sAsg (.nm 2) (dLst dNil))
    (sSeq (sFor (iVal (dVar 0)) (.tp [3, 4]) (sSeq (sIf (dBl (dOp eqD (dVar 3) (dVar 1))) (sExpr (dMt appendD (dVar 2) (dCons (dVar 4) dNil))) sNil)
    (sIf (dBl (dOp eqD (dVar 4) (dVar 1))) (sExpr (dMt appendD (dVar 2) (dCons (dVar 3) dNil))) sNil)))
    (sRet (dVar 2))))
/-- a web: a tuple or a list of ties -/
def WebS (S : Sto) (wd : D) (ys : List D) : Prop := wd = .tup ys ∨ ∃ l b, wd = .ref l ∧ S[l]? = some (.lst b ys)
theorem WebS.up {S T : Sto} {wd : D} {ys : List D} (h : WebS S wd ys) (g : Gw S T) : WebS T wd ys := by
  rcases h with h | ⟨l, b, h1, h2⟩
  · exact .inl h
  · exact .inr ⟨l, b, h1, g.kp _ _ h2⟩
theorem WebS.src {S : Sto} {wd : D} {ys : List D} (h : WebS S wd ys) : ∃ src, (∀ T, Gw S T → valR wd T = .ok src T) ∧ src.items = ys ∧ ∀ T, Gw S T → src.chk T := by
  rcases h with rfl | ⟨l, b, rfl, h2⟩
  · exact ⟨_, fun _ _ => rfl, rfl, fun _ _ => trivial⟩
  · exact ⟨.lst l b ys, fun T g => by simp [g.kp _ _ h2], rfl, fun T g => g.kp _ _ h2⟩
section
variable {bs : Bodies} {m i : Nat} {S : Sto}
end
/-! ### dicts -/
section
variable {T : Sto} {dl : Nat} {kvs : List (L2.Key × D)}
theorem dk_is (h : T[dl]? = some (.dk kvs)) : dkD (.ref dl) T = some kvs := by
  simp only [dkD, h]
theorem ix_li {i : Nat} {b : Bool} {xs : List D} {k : Int} (h : T[i]? = some (.lst b xs)) : ixA (.ref i) (.int k) T = ixD (.ref i) (.int k) T := by
  unfold ixA dkD
  simp [h]
end
end Dv

namespace Dv
open PySem PySem.Spec PyProof.Rows L2 Df
noncomputable def wyB2 : DenS := (sIf (dBl (dOp ninD (dVar 5) (dVar 2))) (sSeq (sSubW setA (dVar 2) (dVar 5) (dOp addD (dOp ixA (dVar 2) (dVar 4)) (dLst (dCons (dVar 5) dNil))))
    (sExpr (dMt appendD (dVar 3) (dCons (dVar 5) dNil)))) sNil)
noncomputable def wyB1 (iN : Nat) : DenS := (sSeq (sAsg (.nm 4) (dMt popAtD (dVar 3) (dCons (dC (.int 0)) dNil)))
    (sFor (iVal (dCallF iN 2 (dCons (dVar 0) (dCons (dVar 4) dNil)))) (.nm 5) wyB2))
noncomputable def waysF (iN : Nat) : DenS := (sSeq (sAsg (.nm 2) (dDisp (pCons (dVar 1) (dLst (dCons (dVar 1) dNil)) pNil)))
    (sSeq (sAsg (.nm 3) (dLst (dCons (dVar 1) dNil)))
    (sSeq (sWhile 100000 (dTru (dVar 3)) (wyB1 iN))
    (sRet (dVar 2)))))
/-- how far the search is: i keys are done -/
structure WS (S : Sto) (dl wl : Nat) (E : Ed) (n : Nat) (s : Int) (i : Nat) (kvs : List (L2.Key × D)) (ks : List Int) (T : Sto) : Prop where
  hd : T[dl]? = some (.dk kvs)
  hw : T[wl]? = some (.lst true ((ks.drop i).map D.int))
  hk : kvs.map (·.1) = ks.map Sum.inl
  hv : ∀ q ∈ kvs, ∃ (r : Nat) (p : List Int), q.2 = .ref r ∧ T[r]? = some (.lst true (p.map D.int)) ∧ p.length ≤ kvs.length ∧ r ≠ wl ∧ S.length ≤ r ∧ (∃ k, q.1 = .inl k ∧ Pth E s k p) ∧ ∀ z ∈ p, z ∈ ks
  nd : ks.Nodup
  rc : ∀ k ∈ ks, Rch E s k ∧ 0 ≤ k ∧ k < n
  st : s ∈ ks
  gw : Gw S T
  ld : S.length ≤ dl
  lw : S.length ≤ wl
  ne : dl ≠ wl
theorem WS.len {S : Sto} {dl wl : Nat} {E : Ed} {n : Nat} {s : Int} {i : Nat} {kvs : List (L2.Key × D)} {ks : List Int} {T : Sto} (h : WS S dl wl E n s i kvs ks T) : ks.length ≤ n ∧ kvs.length = ks.length := by
  refine ⟨?_, by simpa using congrArg List.length h.hk⟩
  have := nd_len (l := ks) (m := (List.range n).map fun (k : Nat) => (k : Int)) h.nd fun x hx => by
    have := (h.rc x hx).2
    exact List.mem_map.mpr ⟨x.toNat, List.mem_range.mpr (by omega), by omega⟩
  simpa using this
/-- ties of places below n -/
def InN (n : Nat) (ys : List D) : Prop := ∀ y ∈ ys, ∃ a b : Nat, y = .tup [.int (a : Int), .int (b : Int)] ∧ a < n ∧ b < n
section
variable {bs : Bodies} {m iN : Nat} {S : Sto} {ys : List D} {n : Nat} {s : Int} {dl wl : Nat}
theorem inn_b (h : InN n ys) (hn : n ≤ 8) : AllB ys := fun y hy => by
  obtain ⟨a, b, rfl, h1, h2⟩ := h y hy
  exact ⟨_, _, rfl, by omega, by omega, by omega, by omega⟩
end
end Dv

namespace Dv
open PySem PySem.Spec PyProof.Rows L2 Df
/-! ### lists of whole numbers -/
/-! ### parts by marks -/
theorem keysI_of : ∀ {kvs : List (L2.Key × D)} {ks : List Int}, kvs.map (·.1) = ks.map Sum.inl → keysI kvs = some ks
  | [], [], _ => rfl
  | [], _ :: _, e => by simp at e
  | _ :: _, [], e => by simp at e
  | (k1, d) :: r, k :: ks, e => by
    simp only [List.map_cons, List.cons.injEq] at e
    obtain ⟨rfl, e⟩ := e
    unfold keysI
    rw [keysI_of e]; rfl
/-- a list of lists of whole numbers, all of them new since B -/
def LL (T : Sto) (B l : Nat) (css : List (List Int)) : Prop := ∃ rs : List Nat, T[l]? = some (.lst true (rs.map D.ref)) ∧ rs.length = css.length ∧ (∀ q ∈ rs.zip css, T[q.1]? = some (.lst true (q.2.map D.int)) ∧ B ≤ q.1 ∧ q.1 ≠ l) ∧ B ≤ l
/-! ### pieces -/
noncomputable def pcB (iW : Nat) : DenS := (sIf (dNotT (dTru (dAb true (iVal (dVar 2)) (.nm 5) tYesD (dOp inD (dVar 4) (dVar 5)) [5]))) (sSeq (sAsg (.nm 3) (dCallF iW 2 (dCons (dVar 1) (dCons (dVar 4) dNil))))
    (sExpr (dMt appendD (dVar 2) (dCons (dSK (dVar 3)) dNil)))) sNil)
noncomputable def piecesF (iW : Nat) : DenS := (sSeq (sAsg (.nm 2) (dLst dNil))
    (sSeq (sFor (iRange1 (dCons (dOp ixD (dVar 0) (dC (.int 0))) dNil)) (.nm 4) (pcB iW))
    (sRet (dVar 2))))
@[simp] theorem ev_sk {o : Den} {lv : Lv} {ρ : Dv.Env} {S : Sto} : dSK o lv ρ S = (o lv ρ S).bind skK := id rfl
theorem sk_dk {T : Sto} {dl : Nat} {kvs : List (L2.Key × D)} {ks : List Int} (h : T[dl]? = some (.dk kvs)) (hk : kvs.map (·.1) = ks.map Sum.inl) (hl : ks.length < 64) : skK (.ref dl) T = .ok (.ref T.length) (T ++ [.lst true ((srtI ks).map D.int)]) := by
  unfold skK
  rw [dk_is h]
  simp only [Option.bind_some, keysI_of hk, skR]
  rw [if_pos hl]
theorem LL.up {T T' : Sto} {B l : Nat} {css : List (List Int)} (h : LL T B l css) (g : ∀ (j : Nat) o, T[j]? = some o → T'[j]? = some o) : LL T' B l css := by
  obtain ⟨rs, h1, h2, h3, h4⟩ := h
  exact ⟨rs, g _ _ h1, h2, fun q hq => ⟨g _ _ (h3 q hq).1, (h3 q hq).2⟩, h4⟩
section
variable {bs : Bodies} {m iN iW i : Nat} {S : Sto} {ys : List D} {n : Nat} {f : Nat → Int}
end
end Dv

namespace Dv
open PySem PySem.Spec PyProof.Rows L2 Df
/-! ### membership in a list of pairs -/
theorem nin_prl {S : Sto} {t : D} {l : Nat} {b : Bool} {ws : List D} (h : S[l]? = some (.lst b ws)) (ht : BP t) (hw : AllB ws) (hl : ws.length ≤ 900) : ninD t (.ref l) S = .ok (.bl (!inW t ws)) S := by
  have e1 : toP S 1000 t = some (prP t) := toP_bp (n := 995) ht
  have e2 : toP S 1000 (.ref l) = some (.list (ws.map prP)) := by
    have e := toPs_bp (S := S) (n := 994 - ws.length) hw
    rw [show 994 - ws.length + 5 + ws.length = 999 from by omega] at e
    unfold toP
    rw [h]
    simp only
    rw [e]; rfl
  obtain ⟨a, b'⟩ := shp_prs hw
  have s2 : SeqAt.shaped (.list (ws.map prP)) = true := by
    simp [SeqAt.shaped, PyData.canLay0, PyData.depth, a]; omega
  have ed : dkD (.ref l) S = none := by simp only [dkD, h]
  unfold ninD inB
  rw [ed, e1, e2]
  simp only
  rw [if_pos ⟨shp_pr ht, s2⟩, any_pr ht hw]
/-! ### a ring drawn -/
/-- ties so far -/
structure TS (n : Nat) (ts : List D) : Prop where
  it : ∀ y ∈ ts, isTie (n : Int) y = true
  nd : ts.Nodup
  ln : ts.length ≤ 7
theorem TS.b {n : Nat} {ts : List D} (h : TS n ts) (hn : n ≤ 8) : AllB ts := fun y hy => tie_bp (h.it y hy) (by omega)
section
variable {bs : Bodies} {m iT iX : Nat} {S : Sto} {r : Nat}
/-- names: all unlike, below b -/
structure Nms (b : Nat) (xs : List D) : Prop where
  nm : ∀ y ∈ xs, ∃ k : Nat, y = .int (k : Int) ∧ k < b
  nd : xs.Nodup
theorem Nms.at {b : Nat} {xs : List D} (h : Nms b xs) {j : Nat} (h1 : j < xs.length) : ∃ k : Nat, L2.atI xs (j : Int) = some (.int (k : Int)) ∧ k < b ∧ xs[j]? = some (.int (k : Int)) := by
  obtain ⟨k, e, hk⟩ := h.nm (xs[j]'h1) (List.getElem_mem _)
  have : xs[j]? = some (.int (k : Int)) := by rw [List.getElem?_eq_getElem h1, e]
  exact ⟨k, L2.atI_nat this, hk, this⟩
/-- the name at a number -/
def nmAt (xs : List D) (j : Nat) : Int := match xs[j]? with
  | some (.int k) => k
  | _ => 0
theorem Nms.at' {b : Nat} {xs : List D} (h : Nms b xs) {j : Nat} (h1 : j < xs.length) : L2.atI xs (j : Int) = some (.int (nmAt xs j)) ∧ 0 ≤ nmAt xs j ∧ nmAt xs j < b := by
  obtain ⟨k, e1, e2, e3⟩ := h.at h1
  unfold nmAt
  rw [e3]
  exact ⟨e1, by simp, by simp; omega⟩
theorem Nms.inj {b : Nat} {xs : List D} (h : Nms b xs) {i j : Nat} (h1 : i < xs.length) (h2 : j < xs.length) (e : nmAt xs i = nmAt xs j) : i = j := by
  obtain ⟨k, _, _, e3⟩ := h.at h1
  obtain ⟨k', _, _, e4⟩ := h.at h2
  unfold nmAt at e
  rw [e3, e4] at e
  simp only at e
  exact (List.getElem?_inj h1 h.nd).mp (by rw [e3, e4, e])
end
end Dv

namespace Dv
open PySem PySem.Spec PyProof.Rows L2 Df
section
variable {T : Sto}
@[simp] theorem ixA_t {xs : List D} {k : D} : ixA (.tup xs) k T = ixD (.tup xs) k T := id rfl
theorem ixA_l {i : Nat} {b : Bool} {xs : List D} {k : Int} {d : D} (h : T[i]? = some (.lst b xs)) (hx : L2.atI xs k = some d) : ixA (.ref i) (.int k) T = .ok d T := by
  rw [ix_li h, ix_r h, hx]; rfl
end
/-- sides -/
def Col (E : Ed) (c : Int → Int) : Prop := (∀ x, c x = 0 ∨ c x = 1) ∧ ∀ a b, Adj E a b → c a ≠ c b
/-- the side of a place, by a way from its mark -/
def Sd (E : Ed) (f : Nat → Int) (x : Nat) (v : Int) : Prop := ∃ p, Pth E (f x) (x : Int) p ∧ v = ((p.length : Int) - 1) % 2
noncomputable def sdB2 : DenS := (sSubW setA (dVar 5) (dVar 4) (dOp modD (dOp subD (dCl lenD (dCons (dOp ixA (dVar 3) (dVar 4)) dNil)) (dC (.int 1))) (dC (.int 2))))
noncomputable def sdB1b : DenS := (sFor (iVal (dVar 2)) (.nm 4) sdB2)
noncomputable def sdB1 (iW : Nat) : DenS := (sSeq (sAsg (.nm 3) (dCallF iW 2 (dCons (dVar 1) (dCons (dOp ixA (dVar 2) (dC (.int 0))) dNil)))) sdB1b)
noncomputable def sdR3 : DenS := (sSeq (sIf (dTru (dAb true (iVal (dVar 1)) (.tp [6, 7]) tYesD (dOp eqD (dOp ixA (dVar 5) (dVar 6)) (dOp ixA (dVar 5) (dVar 7))) [6, 7])) (sRet (dC .non)) sNil)
    (sRet (dVar 5)))
noncomputable def sidesF (iP iW : Nat) : DenS := (sSeq (sAsg (.nm 5) (dOp mulD (dLst (dCons (dC (.int 0)) dNil)) (dOp ixA (dVar 0) (dC (.int 0)))))
    (sSeq (sFor (iVal (dCallF iP 2 (dCons (dVar 0) (dCons (dVar 1) dNil)))) (.nm 2) (sdB1 iW))
    sdR3))
/-- a list of n sides, those in X by ways -/
structure SL (T : Sto) (E : Ed) (f : Nat → Int) (n sl : Nat) (ss : List Int) (X : Nat → Prop) : Prop where
  hs : T[sl]? = some (.lst true (ss.map D.int))
  ln : ss.length = n
  b : ∀ v ∈ ss, v = 0 ∨ v = 1
  sd : ∀ x : Nat, X x → ∀ v, ss[x]? = some v → Sd E f x v
theorem SL.put {T : Sto} {E : Ed} {f : Nat → Int} {n sl : Nat} {ss : List Int} {X : Nat → Prop} (h : SL T E f n sl ss X) {j : Nat} {v : Int} (hj : j < n) (hv : Sd E f j v) : SL (T.set sl (.lst true ((ss.set j v).map D.int))) E f n sl (ss.set j v) fun x => X x ∨ x = j := by
  have lt := (List.getElem?_eq_some_iff.mp h.hs).1
  refine ⟨List.getElem?_set_self lt, by rw [List.length_set, h.ln], fun w hw => ?_, fun x hx w hw => ?_⟩
  · rcases List.mem_or_eq_of_mem_set hw with z | z
    · exact h.b w z
    · obtain ⟨p, _, e⟩ := hv
      subst z
      omega
  · by_cases c : x = j
    · subst c
      rw [List.getElem?_set_self (by rw [h.ln]; exact hj)] at hw
      cases hw
      exact hv
    · rw [List.getElem?_set_ne (Ne.symm c)] at hw
      exact h.sd x (hx.resolve_right c) w hw
theorem SL.up {T T' : Sto} {E : Ed} {f : Nat → Int} {n sl : Nat} {ss : List Int} {X : Nat → Prop} (h : SL T E f n sl ss X) (g : Gw T T') : SL T' E f n sl ss X := ⟨g.kp _ _ h.hs, h.ln, h.b, h.sd⟩
section
variable {bs : Bodies} {m iN iW iP i : Nat} {S : Sto} {ys : List D} {n : Nat} {f : Nat → Int}
end
end Dv

namespace Dv
open PySem PySem.Spec PyProof.Rows L2 Df
section
variable {S : Sto}
end
end Dv

namespace Df
/-- a tie closes a ring: its places were in one piece ahead of it -/
def Cyc (E : Ed) : Prop := ∃ E1 a b E2, E = E1 ++ (a, b) :: E2 ∧ Rch E1 a b
/-- a ring -/
structure Rng (E : Ed) (p : List Int) : Prop where
  ln : 3 ≤ p.length
  nd : p.Nodup
  ad : ∀ i x y, p[i]? = some x → p[i + 1]? = some y → Adj E x y
  cl : ∀ x y, p[0]? = some x → p[p.length - 1]? = some y → Adj E y x
theorem Adj.mono {E F : Ed} (h : ∀ e ∈ E, e ∈ F) {a b : Int} (k : Adj E a b) : Adj F a b := k.imp (h _) (h _)
theorem Pth.shape {E : Ed} {s k : Int} {p : List Int} (h : Pth E s k p) : p[0]? = some s ∧ p[p.length - 1]? = some k ∧ ∀ i x y, p[i]? = some x → p[i + 1]? = some y → Adj E x y := by
  induction h with
  | nil => exact ⟨rfl, rfl, fun i x y h1 h2 => by simp at h2⟩
  | @snoc b c p h a n ih =>
    obtain ⟨h1, h2, h3⟩ := ih
    have pp := h.pos
    refine ⟨by rw [List.getElem?_append_left (by omega)]; exact h1, by simp, fun i x y hx hy => ?_⟩
    by_cases e : i + 1 < p.length
    · rw [List.getElem?_append_left (by omega)] at hx hy
      exact h3 i x y hx hy
    · have l := (List.getElem?_eq_some_iff.mp hy).1
      rw [List.length_append, List.length_singleton] at l
      have ei : i = p.length - 1 := by omega
      subst ei
      rw [List.getElem?_append_left (by omega), h2] at hx
      rw [show p.length - 1 + 1 = p.length from by omega] at hy
      simp at hy
      cases hx; subst hy
      exact a
end Df
namespace Dv
open PySem PySem.Spec PyProof.Rows L2 Df
@[simp] theorem ev_get {o k : Den} {lv : Lv} {ρ : Dv.Env} {S : Sto} : dGet o k lv ρ S = (o lv ρ S).bind (gtK1 k lv ρ) := id rfl
@[simp] theorem ev_ls {a : Den} {lv : Lv} {ρ : Dv.Env} {S : Sto} : dLS a lv ρ S = (a lv ρ S).bind lsK := id rfl
/-- a web whose ties are those of a frame of n places -/
structure TW (n : Nat) (ys : List D) : Prop where
  it : ∀ y ∈ ys, isTie (n : Int) y = true
  nd : ys.Nodup
  ln : ys.length ≤ 7
theorem tie_inn' {n : Nat} {ts : List D} (h : ∀ y ∈ ts, isTie (n : Int) y = true) : InN n ts := fun y hy => by
  have := h y hy
  match y, this with
  | .tup [.int i, .int j], h =>
    have := of_decide_eq_true h
    exact ⟨i.toNat, j.toNat, by congr <;> omega, by omega, by omega⟩
theorem tie_sh {n : Nat} {y : D} (h : isTie (n : Int) y = true) : ∃ a b : Nat, y = .tup [.int (a : Int), .int (b : Int)] ∧ a < b ∧ b < n := by
  match y, h with
  | .tup [.int i, .int j], h =>
    have := of_decide_eq_true h
    exact ⟨i.toNat, j.toNat, by congr <;> omega, by omega, by omega⟩
theorem TW.inn {n : Nat} {ys : List D} (h : TW n ys) : InN n ys := tie_inn' h.it
theorem TW.sub {n : Nat} {ys zs : List D} (h : TW n ys) (s : zs.Sublist ys) : TW n zs := ⟨fun y hy => h.it y (s.subset hy), h.nd.sublist s, Nat.le_trans s.length_le h.ln⟩
/-- the pairs of a web are unlike, either way about -/
theorem TW.un {n : Nat} {d r : List D} {a b : Nat} (h : TW n (d ++ .tup [.int (a : Int), .int (b : Int)] :: r)) : a < b ∧ b < n ∧ ((a : Int), (b : Int)) ∉ d.map keyD ∧ ((b : Int), (a : Int)) ∉ d.map keyD := by
  obtain ⟨a', b', e, l1, l2⟩ := tie_sh (h.it (.tup [.int (a : Int), .int (b : Int)]) (by simp))
  simp only [D.tup.injEq, List.cons.injEq, D.int.injEq, and_true] at e
  have nd := (List.nodup_append.mp h.nd).2.2
  refine ⟨by omega, by omega, fun z => ?_, fun z => ?_⟩ <;> obtain ⟨y, hy, ey⟩ := List.mem_map.mp z <;> obtain ⟨c, d', rfl, l3, l4⟩ := tie_sh (h.it y (by simp [hy])) <;> (have ey : ((c : Int), (d' : Int)) = _ := ey; simp only [Prod.mk.injEq] at ey)
  · exact nd _ hy _ List.mem_cons_self (by rw [ey.1, ey.2])
  · omega
noncomputable def roR : DenS := (sSeq (sIf (dBl (dOp isnD (dVar 5) (dC .non))) (sRet (dVar 5)) sNil)
    (sExpr (dMt appendD (dVar 2) (dCons (dTup (dCons (dVar 3) (dCons (dVar 4) dNil))) dNil))))
noncomputable def roB (iW : Nat) : DenS := (sSeq (sAsg (.nm 5) (dGet (dCallF iW 2 (dCons (dVar 2) (dCons (dVar 3) dNil))) (dVar 4))) roR)
noncomputable def ringF (iW : Nat) : DenS := (sSeq (sAsg (.nm 2) (dLst dNil))
    (sSeq (sFor (iVal (dVar 1)) (.tp [3, 4]) (roB iW))
    (sRet (dC .non))))
section
variable {bs : Bodies} {m iN iW i : Nat} {S : Sto} {ys : List D} {n : Nat}
end
end Dv

namespace Df
/-! ### rings, parts and ties, counted -/
/-- how many are their own marks -/
def cnt (f : Nat → Int) (n : Nat) : Nat := ((List.range n).filter fun p => decide (f p = (p : Int))).length
theorem Mk.uniq {E : Ed} {n : Nat} {f g : Nat → Int} (hf : Mk E n f) (hg : Mk E n g) {i : Nat} (hi : i < n) : f i = g i := by
  obtain ⟨a1, a2⟩ := hf.rg i hi
  obtain ⟨b1, b2⟩ := hg.rg i hi
  have l1 := hf.lo i (g i).toNat hi (by omega) (by rw [Int.toNat_of_nonneg b1]; exact hg.rc i hi)
  have l2 := hg.lo i (f i).toNat hi (by omega) (by rw [Int.toNat_of_nonneg a1]; exact hf.rc i hi)
  omega
theorem cnt_congr {n : Nat} {f g : Nat → Int} (h : ∀ i, i < n → f i = g i) : cnt f n = cnt g n := by
  unfold cnt
  congr 1
  refine List.filter_congr fun x hx => ?_
  rw [h x (List.mem_range.mp hx)]
theorem Mk.cnt {E : Ed} {n : Nat} {f g : Nat → Int} (hf : Mk E n f) (hg : Mk E n g) : cnt f n = cnt g n := cnt_congr fun _ hi => hf.uniq hg hi
end Df

namespace Dv
open PySem PySem.Spec PyProof.Rows L2 Df
theorem str_nd {l : List D} (h : Str_ l) : l.Nodup := str_nodup h
/-! ### sorted_ties, is_tie, is_web, web_of -/
def normD (y : D) : D := .tup [.int (if (keyD y).2 < (keyD y).1 then (keyD y).2 else (keyD y).1), .int (if (keyD y).1 < (keyD y).2 then (keyD y).2 else (keyD y).1)]
theorem norm_all {gs : List D} : AllPr (gs.map normD) := fun y hy => by
  obtain ⟨x, _, rfl⟩ := List.mem_map.mp hy
  rfl
theorem norm_tie {n : Int} {y : D} (h : isTie n y = true) : normD y = y := by
  match y, h with
  | .tup [.int i, .int j], h =>
    have h : decide (0 ≤ i ∧ i < j ∧ j < n) = true := h
    have h := of_decide_eq_true h
    show D.tup [.int (if j < i then j else i), .int (if i < j then j else i)] = _
    rw [if_neg (by omega), if_pos (by omega)]
theorem tie_pa {n : Int} {y : D} (h : isTie n y = true) : isPa n y = true := by
  rw [tie_step, Bool.and_eq_true] at h
  exact h.1
noncomputable def isTieF (iQ : Nat) : DenS := (sRet (dAndV (dCallF iQ 2 (dCons (dOp ixD (dVar 0) (dC (.int 0))) (dCons (dVar 1) dNil))) (dOp inD (dVar 1) (dOp ixD (dVar 0) (dC (.int 1))))))
noncomputable def isWebF (iK iR : Nat) : DenS := (sSeq (sIf (dNotT (dTru (dIsi .tup (dVar 1)))) (sRet (dC (.bl false))) sNil)
    (sRet (dAndV (dAb false (iVal (dVar 1)) (.nm 2) tYesD (dCallF iK 2 (dCons (dVar 0) (dCons (dVar 2) dNil))) [2]) (dCallF iR 1 (dCons (dVar 1) dNil)))))
section
variable {bs : Bodies} {iW iP iQ iR iS iK iB iO m : Nat} {S : Sto}
theorem pa_bp {n : Int} {y : D} (h : isPa n y = true) (hn : n ≤ 8) : BP y := by
  match y, h with
  | .tup [.int i, .int j], h =>
    have h := of_decide_eq_true h
    exact ⟨i, j, rfl, by omega, by omega, by omega, by omega⟩
def isTi (n : Int) (ts : List D) (d : D) : Bool := isPa n d && inW d ts
theorem isTie_eq (hW : bs[iW]? = some (wholeF, 1)) (hP : bs[iP]? = some (placeF iW, 2)) (hQ : bs[iQ]? = some (pairF iP, 2)) (hK : bs[iK]? = some (isTieF iQ, 2)) {n : Int} {ts : List D} (hm : 5 ≤ m) (hn : n ≤ 8) (ht : AllB ts) (hl : ts.length ≤ 900) (d : D) : Phi bs m 0 iK [.tup [.int n, .tup ts], d] S = .ok (.bl (isTi n ts d)) S := by
  refine R.eq_of (wpP (by omega) hK ?_)
  have hq := fun d => pair_eq (S := S) hW hP hQ (show 4 ≤ m - 1 by omega) n d
  simp [isTieF, hq, isTi]
  cases hp : isPa n d with
  | false => simp
  | true => simp [in_pr (pa_bp hp hn) ht hl]
def isWb (n : Int) (ts ys : List D) : Bool := ys.all (isTi n ts) && risB (ys.map keyD)
theorem isWeb_eq (hW : bs[iW]? = some (wholeF, 1)) (hP : bs[iP]? = some (placeF iW, 2)) (hQ : bs[iQ]? = some (pairF iP, 2)) (hR : bs[iR]? = some (risingF, 2)) (hK : bs[iK]? = some (isTieF iQ, 2)) (hB : bs[iB]? = some (isWebF iK iR, 3)) {n : Int} {ts ys : List D} (hm : 7 ≤ m) (hn : n ≤ 8) (ht : AllB ts) (hl : ts.length ≤ 900) (hy : ys.length ≤ 1000000) : Phi bs m 0 iB [.tup [.int n, .tup ts], .tup ys] S = .ok (.bl (isWb n ts ys)) S := by
  refine R.eq_of (wpP (by omega) hB ?_)
  have dn : (Phi bs (m - 1)).dn = Phi bs (m - 1 - 1) := dnP (by omega)
  have hk := fun d => isTie_eq (S := S) hW hP hQ hK (show 5 ≤ m - 1 - 1 by omega) hn ht hl d
  simp [isWebF, isTp]
  rw [ab_all (p := isTi n ts) trivial fun x hx => ⟨_, rfl, rfl, R.eq_of (by simp [wipeE, dn, hk])⟩]
  simp only [items_t, isWb]
  cases ha : ys.all (isTi n ts) with
  | false => simp
  | true =>
    have pr : AllPr ys := fun y hy => by
      have := List.all_eq_true.mp ha y hy
      unfold isTi at this
      rw [Bool.and_eq_true] at this
      match y, this.1 with
      | .tup [.int i, .int j], _ => rfl
    have e : (ys.map keyD).map prD = ys := by
      rw [List.map_map]
      conv => rhs; rw [← List.map_id ys]
      refine List.map_congr_left fun y hy => ?_
      match y, pr y hy with
      | .tup [.int i, .int j], _ => rfl
    have q := rising_eq (S := S) hR (show 2 ≤ m - 1 by omega) (ys.map keyD) (by rw [List.length_map]; exact hy)
    rw [e] at q
    simp [q]
end
end Dv

namespace Dv
open PySem PySem.Spec PyProof.Rows L2 Df
/-! ### pens of any sort -/
/-- a pen of this sort stands at r -/
def PnG (K : O → Prop) (S : Sto) (r : Nat) : Prop := ∃ o, S[r]? = some o ∧ K o
structure EvG (K : O → Prop) (r : Nat) (S S' : Sto) : Prop where
  kp : ∀ (j : Nat) o, j ≠ r → S[j]? = some o → S'[j]? = some o
  pn : PnG K S' r
  ln : S.length ≤ S'.length
section
variable {K : O → Prop} {r : Nat} {S S' T : Sto}
theorem PnG.lt (h : PnG K S r) : r < S.length := by
  obtain ⟨o, e, _⟩ := h
  exact (List.getElem?_eq_some_iff.mp e).1
theorem EvG.refl (h : PnG K S r) : EvG K r S S := ⟨fun _ _ _ e => e, h, Nat.le_refl _⟩
theorem EvG.trans {S1 S2 S3 : Sto} (a : EvG K r S1 S2) (b : EvG K r S2 S3) : EvG K r S1 S3 := ⟨fun j o n e => b.kp j o n (a.kp j o n e), b.pn, Nat.le_trans a.ln b.ln⟩
theorem Gw.evg (g : Gw S T) (h : PnG K S r) : EvG K r S T := ⟨fun j o _ e => g.kp j o e, by obtain ⟨o, e, k⟩ := h; exact ⟨o, g.kp _ _ e, k⟩, g.ln⟩
theorem EvG.app (h : PnG K S r) (T : Sto) : EvG K r S (S ++ T) := (Gw.app T).evg h
theorem EvG.app' (h : EvG K r S S') (T : Sto) : EvG K r S (S' ++ T) := h.trans (EvG.app h.pn T)
theorem EvG.gw (h : EvG K r S S') (g : Gw S' T) : EvG K r S T := h.trans (g.evg h.pn)
theorem EvG.put {l : Nat} {o : O} (h : EvG K r S S') (hr : r < S.length) (hl : S.length ≤ l) : EvG K r S (S'.set l o) := by
  refine ⟨fun j u n e => ?_, ?_, by rw [List.length_set]; exact h.ln⟩
  · have hj := (List.getElem?_eq_some_iff.mp e).1
    rw [List.getElem?_set_ne (by omega)]
    exact h.kp j u n e
  · obtain ⟨o, e, k⟩ := h.pn
    exact ⟨o, by rw [List.getElem?_set_ne (by omega)]; exact e, k⟩
end
/-! ### the pen with three numbers -/
@[simp] theorem at2 {x y z : D} {xs : List D} : L2.atI (x :: y :: z :: xs) 2 = some z := L2.atI_nat (j := 2) rfl
@[simp] theorem setO_2 {S : Sto} {i : Nat} {x y z v : D} {xs : List D} : setO i (some (.lst true (x :: y :: z :: xs))) 2 v S = .ok () (S.set i (.lst true (x :: y :: v :: xs))) := by
  unfold setO
  have e : L2.ixN (x :: y :: z :: xs).length 2 = some 2 := by
    unfold L2.ixN
    rw [if_pos (by omega), if_pos (by rw [List.length_cons, List.length_cons, List.length_cons]; omega)]
    rfl
  simp only [e]
  rfl
section
variable {bs : Bodies} {iT iN m : Nat} {S : Sto}
end
end Dv

namespace Dv
open PySem PySem.Spec PyProof.Rows L2 Df
/-! ### a frame drawn, ten sorts of places -/
def fr (n : Nat) (ts : List D) : D := .tup [.int (n : Int), .tup ts]
/-- a frame of n places with the ties ts -/
structure Frm (n : Nat) (ts : List D) : Prop where
  n1 : 1 ≤ n
  n8 : n ≤ 8
  st : Str_ ts
  it : ∀ y ∈ ts, isTie (n : Int) y = true
  l7 : ts.length ≤ 7
theorem Frm.tw {n : Nat} {ts : List D} (h : Frm n ts) : TW n ts := ⟨h.it, str_nd h.st, h.l7⟩
theorem Frm.b {n : Nat} {ts : List D} (h : Frm n ts) : AllB ts := inn_b h.tw.inn h.n8
section
variable {bs : Bodies} {K : O → Prop} {iT iF m r : Nat} {S : Sto}
end
end Dv

namespace Dv
open PySem
/-! ### words are unlike -/
@[simp] theorem w_odd_joined : (Str.ofString "odd" = Str.ofString "joined") = False := by decide +kernel
@[simp] theorem w_odd_ring : (Str.ofString "odd" = Str.ofString "ring") = False := by decide +kernel
@[simp] theorem w_odd_three : (Str.ofString "odd" = Str.ofString "three") = False := by decide +kernel
@[simp] theorem w_odd_hub : (Str.ofString "odd" = Str.ofString "hub") = False := by decide +kernel
@[simp] theorem w_odd_lone : (Str.ofString "odd" = Str.ofString "lone") = False := by decide +kernel
@[simp] theorem w_odd_sides : (Str.ofString "odd" = Str.ofString "sides") = False := by decide +kernel
@[simp] theorem w_odd_tie : (Str.ofString "odd" = Str.ofString "tie") = False := by decide +kernel
@[simp] theorem w_odd_many : (Str.ofString "odd" = Str.ofString "many") = False := by decide +kernel
@[simp] theorem w_odd_way : (Str.ofString "odd" = Str.ofString "way") = False := by decide +kernel
@[simp] theorem w_odd_ends : (Str.ofString "odd" = Str.ofString "ends") = False := by decide +kernel
@[simp] theorem w_odd_told : (Str.ofString "odd" = Str.ofString "told") = False := by decide +kernel
@[simp] theorem w_odd_not : (Str.ofString "odd" = Str.ofString "not") = False := by decide +kernel
@[simp] theorem w_odd_missing : (Str.ofString "odd" = Str.ofString "missing") = False := by decide +kernel
@[simp] theorem w_odd_both : (Str.ofString "odd" = Str.ofString "both") = False := by decide +kernel
@[simp] theorem w_odd_either : (Str.ofString "odd" = Str.ofString "either") = False := by decide +kernel
@[simp] theorem w_odd_one : (Str.ofString "odd" = Str.ofString "one") = False := by decide +kernel
@[simp] theorem w_odd_lots : (Str.ofString "odd" = Str.ofString "lots") = False := by decide +kernel
@[simp] theorem w_odd_words : (Str.ofString "odd" = Str.ofString "words") = False := by decide +kernel
@[simp] theorem w_odd_web : (Str.ofString "odd" = Str.ofString "web") = False := by decide +kernel
@[simp] theorem w_joined_odd : (Str.ofString "joined" = Str.ofString "odd") = False := by decide +kernel
@[simp] theorem w_joined_ring : (Str.ofString "joined" = Str.ofString "ring") = False := by decide +kernel
@[simp] theorem w_joined_three : (Str.ofString "joined" = Str.ofString "three") = False := by decide +kernel
@[simp] theorem w_joined_hub : (Str.ofString "joined" = Str.ofString "hub") = False := by decide +kernel
@[simp] theorem w_joined_lone : (Str.ofString "joined" = Str.ofString "lone") = False := by decide +kernel
@[simp] theorem w_joined_sides : (Str.ofString "joined" = Str.ofString "sides") = False := by decide +kernel
@[simp] theorem w_joined_tie : (Str.ofString "joined" = Str.ofString "tie") = False := by decide +kernel
@[simp] theorem w_joined_many : (Str.ofString "joined" = Str.ofString "many") = False := by decide +kernel
@[simp] theorem w_joined_way : (Str.ofString "joined" = Str.ofString "way") = False := by decide +kernel
@[simp] theorem w_joined_ends : (Str.ofString "joined" = Str.ofString "ends") = False := by decide +kernel
@[simp] theorem w_joined_told : (Str.ofString "joined" = Str.ofString "told") = False := by decide +kernel
@[simp] theorem w_joined_not : (Str.ofString "joined" = Str.ofString "not") = False := by decide +kernel
@[simp] theorem w_joined_missing : (Str.ofString "joined" = Str.ofString "missing") = False := by decide +kernel
@[simp] theorem w_joined_both : (Str.ofString "joined" = Str.ofString "both") = False := by decide +kernel
@[simp] theorem w_joined_either : (Str.ofString "joined" = Str.ofString "either") = False := by decide +kernel
@[simp] theorem w_joined_one : (Str.ofString "joined" = Str.ofString "one") = False := by decide +kernel
@[simp] theorem w_joined_lots : (Str.ofString "joined" = Str.ofString "lots") = False := by decide +kernel
@[simp] theorem w_joined_words : (Str.ofString "joined" = Str.ofString "words") = False := by decide +kernel
@[simp] theorem w_joined_web : (Str.ofString "joined" = Str.ofString "web") = False := by decide +kernel
@[simp] theorem w_ring_odd : (Str.ofString "ring" = Str.ofString "odd") = False := by decide +kernel
@[simp] theorem w_ring_joined : (Str.ofString "ring" = Str.ofString "joined") = False := by decide +kernel
@[simp] theorem w_ring_three : (Str.ofString "ring" = Str.ofString "three") = False := by decide +kernel
@[simp] theorem w_ring_hub : (Str.ofString "ring" = Str.ofString "hub") = False := by decide +kernel
@[simp] theorem w_ring_lone : (Str.ofString "ring" = Str.ofString "lone") = False := by decide +kernel
@[simp] theorem w_ring_sides : (Str.ofString "ring" = Str.ofString "sides") = False := by decide +kernel
@[simp] theorem w_ring_tie : (Str.ofString "ring" = Str.ofString "tie") = False := by decide +kernel
@[simp] theorem w_ring_many : (Str.ofString "ring" = Str.ofString "many") = False := by decide +kernel
@[simp] theorem w_ring_way : (Str.ofString "ring" = Str.ofString "way") = False := by decide +kernel
@[simp] theorem w_ring_ends : (Str.ofString "ring" = Str.ofString "ends") = False := by decide +kernel
@[simp] theorem w_ring_told : (Str.ofString "ring" = Str.ofString "told") = False := by decide +kernel
@[simp] theorem w_ring_not : (Str.ofString "ring" = Str.ofString "not") = False := by decide +kernel
@[simp] theorem w_ring_missing : (Str.ofString "ring" = Str.ofString "missing") = False := by decide +kernel
@[simp] theorem w_ring_both : (Str.ofString "ring" = Str.ofString "both") = False := by decide +kernel
@[simp] theorem w_ring_either : (Str.ofString "ring" = Str.ofString "either") = False := by decide +kernel
@[simp] theorem w_ring_one : (Str.ofString "ring" = Str.ofString "one") = False := by decide +kernel
@[simp] theorem w_ring_lots : (Str.ofString "ring" = Str.ofString "lots") = False := by decide +kernel
@[simp] theorem w_ring_words : (Str.ofString "ring" = Str.ofString "words") = False := by decide +kernel
@[simp] theorem w_ring_web : (Str.ofString "ring" = Str.ofString "web") = False := by decide +kernel
@[simp] theorem w_three_odd : (Str.ofString "three" = Str.ofString "odd") = False := by decide +kernel
@[simp] theorem w_three_joined : (Str.ofString "three" = Str.ofString "joined") = False := by decide +kernel
@[simp] theorem w_three_ring : (Str.ofString "three" = Str.ofString "ring") = False := by decide +kernel
@[simp] theorem w_three_hub : (Str.ofString "three" = Str.ofString "hub") = False := by decide +kernel
@[simp] theorem w_three_lone : (Str.ofString "three" = Str.ofString "lone") = False := by decide +kernel
@[simp] theorem w_three_sides : (Str.ofString "three" = Str.ofString "sides") = False := by decide +kernel
@[simp] theorem w_three_tie : (Str.ofString "three" = Str.ofString "tie") = False := by decide +kernel
@[simp] theorem w_three_many : (Str.ofString "three" = Str.ofString "many") = False := by decide +kernel
@[simp] theorem w_three_way : (Str.ofString "three" = Str.ofString "way") = False := by decide +kernel
@[simp] theorem w_three_ends : (Str.ofString "three" = Str.ofString "ends") = False := by decide +kernel
@[simp] theorem w_three_told : (Str.ofString "three" = Str.ofString "told") = False := by decide +kernel
@[simp] theorem w_three_not : (Str.ofString "three" = Str.ofString "not") = False := by decide +kernel
@[simp] theorem w_three_missing : (Str.ofString "three" = Str.ofString "missing") = False := by decide +kernel
@[simp] theorem w_three_both : (Str.ofString "three" = Str.ofString "both") = False := by decide +kernel
@[simp] theorem w_three_either : (Str.ofString "three" = Str.ofString "either") = False := by decide +kernel
@[simp] theorem w_three_one : (Str.ofString "three" = Str.ofString "one") = False := by decide +kernel
@[simp] theorem w_three_lots : (Str.ofString "three" = Str.ofString "lots") = False := by decide +kernel
@[simp] theorem w_three_words : (Str.ofString "three" = Str.ofString "words") = False := by decide +kernel
@[simp] theorem w_three_web : (Str.ofString "three" = Str.ofString "web") = False := by decide +kernel
@[simp] theorem w_hub_odd : (Str.ofString "hub" = Str.ofString "odd") = False := by decide +kernel
@[simp] theorem w_hub_joined : (Str.ofString "hub" = Str.ofString "joined") = False := by decide +kernel
@[simp] theorem w_hub_ring : (Str.ofString "hub" = Str.ofString "ring") = False := by decide +kernel
@[simp] theorem w_hub_three : (Str.ofString "hub" = Str.ofString "three") = False := by decide +kernel
@[simp] theorem w_hub_lone : (Str.ofString "hub" = Str.ofString "lone") = False := by decide +kernel
@[simp] theorem w_hub_sides : (Str.ofString "hub" = Str.ofString "sides") = False := by decide +kernel
@[simp] theorem w_hub_tie : (Str.ofString "hub" = Str.ofString "tie") = False := by decide +kernel
@[simp] theorem w_hub_many : (Str.ofString "hub" = Str.ofString "many") = False := by decide +kernel
@[simp] theorem w_hub_way : (Str.ofString "hub" = Str.ofString "way") = False := by decide +kernel
@[simp] theorem w_hub_ends : (Str.ofString "hub" = Str.ofString "ends") = False := by decide +kernel
@[simp] theorem w_hub_told : (Str.ofString "hub" = Str.ofString "told") = False := by decide +kernel
@[simp] theorem w_hub_not : (Str.ofString "hub" = Str.ofString "not") = False := by decide +kernel
@[simp] theorem w_hub_missing : (Str.ofString "hub" = Str.ofString "missing") = False := by decide +kernel
@[simp] theorem w_hub_both : (Str.ofString "hub" = Str.ofString "both") = False := by decide +kernel
@[simp] theorem w_hub_either : (Str.ofString "hub" = Str.ofString "either") = False := by decide +kernel
@[simp] theorem w_hub_one : (Str.ofString "hub" = Str.ofString "one") = False := by decide +kernel
@[simp] theorem w_hub_lots : (Str.ofString "hub" = Str.ofString "lots") = False := by decide +kernel
@[simp] theorem w_hub_words : (Str.ofString "hub" = Str.ofString "words") = False := by decide +kernel
@[simp] theorem w_hub_web : (Str.ofString "hub" = Str.ofString "web") = False := by decide +kernel
@[simp] theorem w_lone_odd : (Str.ofString "lone" = Str.ofString "odd") = False := by decide +kernel
@[simp] theorem w_lone_joined : (Str.ofString "lone" = Str.ofString "joined") = False := by decide +kernel
@[simp] theorem w_lone_ring : (Str.ofString "lone" = Str.ofString "ring") = False := by decide +kernel
@[simp] theorem w_lone_three : (Str.ofString "lone" = Str.ofString "three") = False := by decide +kernel
@[simp] theorem w_lone_hub : (Str.ofString "lone" = Str.ofString "hub") = False := by decide +kernel
@[simp] theorem w_lone_sides : (Str.ofString "lone" = Str.ofString "sides") = False := by decide +kernel
@[simp] theorem w_lone_tie : (Str.ofString "lone" = Str.ofString "tie") = False := by decide +kernel
@[simp] theorem w_lone_many : (Str.ofString "lone" = Str.ofString "many") = False := by decide +kernel
@[simp] theorem w_lone_way : (Str.ofString "lone" = Str.ofString "way") = False := by decide +kernel
@[simp] theorem w_lone_ends : (Str.ofString "lone" = Str.ofString "ends") = False := by decide +kernel
@[simp] theorem w_lone_told : (Str.ofString "lone" = Str.ofString "told") = False := by decide +kernel
@[simp] theorem w_lone_not : (Str.ofString "lone" = Str.ofString "not") = False := by decide +kernel
@[simp] theorem w_lone_missing : (Str.ofString "lone" = Str.ofString "missing") = False := by decide +kernel
@[simp] theorem w_lone_both : (Str.ofString "lone" = Str.ofString "both") = False := by decide +kernel
@[simp] theorem w_lone_either : (Str.ofString "lone" = Str.ofString "either") = False := by decide +kernel
@[simp] theorem w_lone_one : (Str.ofString "lone" = Str.ofString "one") = False := by decide +kernel
@[simp] theorem w_lone_lots : (Str.ofString "lone" = Str.ofString "lots") = False := by decide +kernel
@[simp] theorem w_lone_words : (Str.ofString "lone" = Str.ofString "words") = False := by decide +kernel
@[simp] theorem w_lone_web : (Str.ofString "lone" = Str.ofString "web") = False := by decide +kernel
@[simp] theorem w_sides_odd : (Str.ofString "sides" = Str.ofString "odd") = False := by decide +kernel
@[simp] theorem w_sides_joined : (Str.ofString "sides" = Str.ofString "joined") = False := by decide +kernel
@[simp] theorem w_sides_ring : (Str.ofString "sides" = Str.ofString "ring") = False := by decide +kernel
@[simp] theorem w_sides_three : (Str.ofString "sides" = Str.ofString "three") = False := by decide +kernel
@[simp] theorem w_sides_hub : (Str.ofString "sides" = Str.ofString "hub") = False := by decide +kernel
@[simp] theorem w_sides_lone : (Str.ofString "sides" = Str.ofString "lone") = False := by decide +kernel
@[simp] theorem w_sides_tie : (Str.ofString "sides" = Str.ofString "tie") = False := by decide +kernel
@[simp] theorem w_sides_many : (Str.ofString "sides" = Str.ofString "many") = False := by decide +kernel
@[simp] theorem w_sides_way : (Str.ofString "sides" = Str.ofString "way") = False := by decide +kernel
@[simp] theorem w_sides_ends : (Str.ofString "sides" = Str.ofString "ends") = False := by decide +kernel
@[simp] theorem w_sides_told : (Str.ofString "sides" = Str.ofString "told") = False := by decide +kernel
@[simp] theorem w_sides_not : (Str.ofString "sides" = Str.ofString "not") = False := by decide +kernel
@[simp] theorem w_sides_missing : (Str.ofString "sides" = Str.ofString "missing") = False := by decide +kernel
@[simp] theorem w_sides_both : (Str.ofString "sides" = Str.ofString "both") = False := by decide +kernel
@[simp] theorem w_sides_either : (Str.ofString "sides" = Str.ofString "either") = False := by decide +kernel
@[simp] theorem w_sides_one : (Str.ofString "sides" = Str.ofString "one") = False := by decide +kernel
@[simp] theorem w_sides_lots : (Str.ofString "sides" = Str.ofString "lots") = False := by decide +kernel
@[simp] theorem w_sides_words : (Str.ofString "sides" = Str.ofString "words") = False := by decide +kernel
@[simp] theorem w_sides_web : (Str.ofString "sides" = Str.ofString "web") = False := by decide +kernel
@[simp] theorem w_tie_odd : (Str.ofString "tie" = Str.ofString "odd") = False := by decide +kernel
@[simp] theorem w_tie_joined : (Str.ofString "tie" = Str.ofString "joined") = False := by decide +kernel
@[simp] theorem w_tie_ring : (Str.ofString "tie" = Str.ofString "ring") = False := by decide +kernel
@[simp] theorem w_tie_three : (Str.ofString "tie" = Str.ofString "three") = False := by decide +kernel
@[simp] theorem w_tie_hub : (Str.ofString "tie" = Str.ofString "hub") = False := by decide +kernel
@[simp] theorem w_tie_lone : (Str.ofString "tie" = Str.ofString "lone") = False := by decide +kernel
@[simp] theorem w_tie_sides : (Str.ofString "tie" = Str.ofString "sides") = False := by decide +kernel
@[simp] theorem w_tie_many : (Str.ofString "tie" = Str.ofString "many") = False := by decide +kernel
@[simp] theorem w_tie_way : (Str.ofString "tie" = Str.ofString "way") = False := by decide +kernel
@[simp] theorem w_tie_ends : (Str.ofString "tie" = Str.ofString "ends") = False := by decide +kernel
@[simp] theorem w_tie_told : (Str.ofString "tie" = Str.ofString "told") = False := by decide +kernel
@[simp] theorem w_tie_not : (Str.ofString "tie" = Str.ofString "not") = False := by decide +kernel
@[simp] theorem w_tie_missing : (Str.ofString "tie" = Str.ofString "missing") = False := by decide +kernel
@[simp] theorem w_tie_both : (Str.ofString "tie" = Str.ofString "both") = False := by decide +kernel
@[simp] theorem w_tie_either : (Str.ofString "tie" = Str.ofString "either") = False := by decide +kernel
@[simp] theorem w_tie_one : (Str.ofString "tie" = Str.ofString "one") = False := by decide +kernel
@[simp] theorem w_tie_lots : (Str.ofString "tie" = Str.ofString "lots") = False := by decide +kernel
@[simp] theorem w_tie_words : (Str.ofString "tie" = Str.ofString "words") = False := by decide +kernel
@[simp] theorem w_tie_web : (Str.ofString "tie" = Str.ofString "web") = False := by decide +kernel
@[simp] theorem w_many_odd : (Str.ofString "many" = Str.ofString "odd") = False := by decide +kernel
@[simp] theorem w_many_joined : (Str.ofString "many" = Str.ofString "joined") = False := by decide +kernel
@[simp] theorem w_many_ring : (Str.ofString "many" = Str.ofString "ring") = False := by decide +kernel
@[simp] theorem w_many_three : (Str.ofString "many" = Str.ofString "three") = False := by decide +kernel
@[simp] theorem w_many_hub : (Str.ofString "many" = Str.ofString "hub") = False := by decide +kernel
@[simp] theorem w_many_lone : (Str.ofString "many" = Str.ofString "lone") = False := by decide +kernel
@[simp] theorem w_many_sides : (Str.ofString "many" = Str.ofString "sides") = False := by decide +kernel
@[simp] theorem w_many_tie : (Str.ofString "many" = Str.ofString "tie") = False := by decide +kernel
@[simp] theorem w_many_way : (Str.ofString "many" = Str.ofString "way") = False := by decide +kernel
@[simp] theorem w_many_ends : (Str.ofString "many" = Str.ofString "ends") = False := by decide +kernel
@[simp] theorem w_many_told : (Str.ofString "many" = Str.ofString "told") = False := by decide +kernel
@[simp] theorem w_many_not : (Str.ofString "many" = Str.ofString "not") = False := by decide +kernel
@[simp] theorem w_many_missing : (Str.ofString "many" = Str.ofString "missing") = False := by decide +kernel
@[simp] theorem w_many_both : (Str.ofString "many" = Str.ofString "both") = False := by decide +kernel
@[simp] theorem w_many_either : (Str.ofString "many" = Str.ofString "either") = False := by decide +kernel
@[simp] theorem w_many_one : (Str.ofString "many" = Str.ofString "one") = False := by decide +kernel
@[simp] theorem w_many_lots : (Str.ofString "many" = Str.ofString "lots") = False := by decide +kernel
@[simp] theorem w_many_words : (Str.ofString "many" = Str.ofString "words") = False := by decide +kernel
@[simp] theorem w_many_web : (Str.ofString "many" = Str.ofString "web") = False := by decide +kernel
@[simp] theorem w_way_odd : (Str.ofString "way" = Str.ofString "odd") = False := by decide +kernel
@[simp] theorem w_way_joined : (Str.ofString "way" = Str.ofString "joined") = False := by decide +kernel
@[simp] theorem w_way_ring : (Str.ofString "way" = Str.ofString "ring") = False := by decide +kernel
@[simp] theorem w_way_three : (Str.ofString "way" = Str.ofString "three") = False := by decide +kernel
@[simp] theorem w_way_hub : (Str.ofString "way" = Str.ofString "hub") = False := by decide +kernel
@[simp] theorem w_way_lone : (Str.ofString "way" = Str.ofString "lone") = False := by decide +kernel
@[simp] theorem w_way_sides : (Str.ofString "way" = Str.ofString "sides") = False := by decide +kernel
@[simp] theorem w_way_tie : (Str.ofString "way" = Str.ofString "tie") = False := by decide +kernel
@[simp] theorem w_way_many : (Str.ofString "way" = Str.ofString "many") = False := by decide +kernel
@[simp] theorem w_way_ends : (Str.ofString "way" = Str.ofString "ends") = False := by decide +kernel
@[simp] theorem w_way_told : (Str.ofString "way" = Str.ofString "told") = False := by decide +kernel
@[simp] theorem w_way_not : (Str.ofString "way" = Str.ofString "not") = False := by decide +kernel
@[simp] theorem w_way_missing : (Str.ofString "way" = Str.ofString "missing") = False := by decide +kernel
@[simp] theorem w_way_both : (Str.ofString "way" = Str.ofString "both") = False := by decide +kernel
@[simp] theorem w_way_either : (Str.ofString "way" = Str.ofString "either") = False := by decide +kernel
@[simp] theorem w_way_one : (Str.ofString "way" = Str.ofString "one") = False := by decide +kernel
@[simp] theorem w_way_lots : (Str.ofString "way" = Str.ofString "lots") = False := by decide +kernel
@[simp] theorem w_way_words : (Str.ofString "way" = Str.ofString "words") = False := by decide +kernel
@[simp] theorem w_way_web : (Str.ofString "way" = Str.ofString "web") = False := by decide +kernel
@[simp] theorem w_ends_odd : (Str.ofString "ends" = Str.ofString "odd") = False := by decide +kernel
@[simp] theorem w_ends_joined : (Str.ofString "ends" = Str.ofString "joined") = False := by decide +kernel
@[simp] theorem w_ends_ring : (Str.ofString "ends" = Str.ofString "ring") = False := by decide +kernel
@[simp] theorem w_ends_three : (Str.ofString "ends" = Str.ofString "three") = False := by decide +kernel
@[simp] theorem w_ends_hub : (Str.ofString "ends" = Str.ofString "hub") = False := by decide +kernel
@[simp] theorem w_ends_lone : (Str.ofString "ends" = Str.ofString "lone") = False := by decide +kernel
@[simp] theorem w_ends_sides : (Str.ofString "ends" = Str.ofString "sides") = False := by decide +kernel
@[simp] theorem w_ends_tie : (Str.ofString "ends" = Str.ofString "tie") = False := by decide +kernel
@[simp] theorem w_ends_many : (Str.ofString "ends" = Str.ofString "many") = False := by decide +kernel
@[simp] theorem w_ends_way : (Str.ofString "ends" = Str.ofString "way") = False := by decide +kernel
@[simp] theorem w_ends_told : (Str.ofString "ends" = Str.ofString "told") = False := by decide +kernel
@[simp] theorem w_ends_not : (Str.ofString "ends" = Str.ofString "not") = False := by decide +kernel
@[simp] theorem w_ends_missing : (Str.ofString "ends" = Str.ofString "missing") = False := by decide +kernel
@[simp] theorem w_ends_both : (Str.ofString "ends" = Str.ofString "both") = False := by decide +kernel
@[simp] theorem w_ends_either : (Str.ofString "ends" = Str.ofString "either") = False := by decide +kernel
@[simp] theorem w_ends_one : (Str.ofString "ends" = Str.ofString "one") = False := by decide +kernel
@[simp] theorem w_ends_lots : (Str.ofString "ends" = Str.ofString "lots") = False := by decide +kernel
@[simp] theorem w_ends_words : (Str.ofString "ends" = Str.ofString "words") = False := by decide +kernel
@[simp] theorem w_ends_web : (Str.ofString "ends" = Str.ofString "web") = False := by decide +kernel
@[simp] theorem w_told_odd : (Str.ofString "told" = Str.ofString "odd") = False := by decide +kernel
@[simp] theorem w_told_joined : (Str.ofString "told" = Str.ofString "joined") = False := by decide +kernel
@[simp] theorem w_told_ring : (Str.ofString "told" = Str.ofString "ring") = False := by decide +kernel
@[simp] theorem w_told_three : (Str.ofString "told" = Str.ofString "three") = False := by decide +kernel
@[simp] theorem w_told_hub : (Str.ofString "told" = Str.ofString "hub") = False := by decide +kernel
@[simp] theorem w_told_lone : (Str.ofString "told" = Str.ofString "lone") = False := by decide +kernel
@[simp] theorem w_told_sides : (Str.ofString "told" = Str.ofString "sides") = False := by decide +kernel
@[simp] theorem w_told_tie : (Str.ofString "told" = Str.ofString "tie") = False := by decide +kernel
@[simp] theorem w_told_many : (Str.ofString "told" = Str.ofString "many") = False := by decide +kernel
@[simp] theorem w_told_way : (Str.ofString "told" = Str.ofString "way") = False := by decide +kernel
@[simp] theorem w_told_ends : (Str.ofString "told" = Str.ofString "ends") = False := by decide +kernel
@[simp] theorem w_told_not : (Str.ofString "told" = Str.ofString "not") = False := by decide +kernel
@[simp] theorem w_told_missing : (Str.ofString "told" = Str.ofString "missing") = False := by decide +kernel
@[simp] theorem w_told_both : (Str.ofString "told" = Str.ofString "both") = False := by decide +kernel
@[simp] theorem w_told_either : (Str.ofString "told" = Str.ofString "either") = False := by decide +kernel
@[simp] theorem w_told_one : (Str.ofString "told" = Str.ofString "one") = False := by decide +kernel
@[simp] theorem w_told_lots : (Str.ofString "told" = Str.ofString "lots") = False := by decide +kernel
@[simp] theorem w_told_words : (Str.ofString "told" = Str.ofString "words") = False := by decide +kernel
@[simp] theorem w_told_web : (Str.ofString "told" = Str.ofString "web") = False := by decide +kernel
@[simp] theorem w_not_odd : (Str.ofString "not" = Str.ofString "odd") = False := by decide +kernel
@[simp] theorem w_not_joined : (Str.ofString "not" = Str.ofString "joined") = False := by decide +kernel
@[simp] theorem w_not_ring : (Str.ofString "not" = Str.ofString "ring") = False := by decide +kernel
@[simp] theorem w_not_three : (Str.ofString "not" = Str.ofString "three") = False := by decide +kernel
@[simp] theorem w_not_hub : (Str.ofString "not" = Str.ofString "hub") = False := by decide +kernel
@[simp] theorem w_not_lone : (Str.ofString "not" = Str.ofString "lone") = False := by decide +kernel
@[simp] theorem w_not_sides : (Str.ofString "not" = Str.ofString "sides") = False := by decide +kernel
@[simp] theorem w_not_tie : (Str.ofString "not" = Str.ofString "tie") = False := by decide +kernel
@[simp] theorem w_not_many : (Str.ofString "not" = Str.ofString "many") = False := by decide +kernel
@[simp] theorem w_not_way : (Str.ofString "not" = Str.ofString "way") = False := by decide +kernel
@[simp] theorem w_not_ends : (Str.ofString "not" = Str.ofString "ends") = False := by decide +kernel
@[simp] theorem w_not_told : (Str.ofString "not" = Str.ofString "told") = False := by decide +kernel
@[simp] theorem w_not_missing : (Str.ofString "not" = Str.ofString "missing") = False := by decide +kernel
@[simp] theorem w_not_both : (Str.ofString "not" = Str.ofString "both") = False := by decide +kernel
@[simp] theorem w_not_either : (Str.ofString "not" = Str.ofString "either") = False := by decide +kernel
@[simp] theorem w_not_one : (Str.ofString "not" = Str.ofString "one") = False := by decide +kernel
@[simp] theorem w_not_lots : (Str.ofString "not" = Str.ofString "lots") = False := by decide +kernel
@[simp] theorem w_not_words : (Str.ofString "not" = Str.ofString "words") = False := by decide +kernel
@[simp] theorem w_not_web : (Str.ofString "not" = Str.ofString "web") = False := by decide +kernel
@[simp] theorem w_missing_odd : (Str.ofString "missing" = Str.ofString "odd") = False := by decide +kernel
@[simp] theorem w_missing_joined : (Str.ofString "missing" = Str.ofString "joined") = False := by decide +kernel
@[simp] theorem w_missing_ring : (Str.ofString "missing" = Str.ofString "ring") = False := by decide +kernel
@[simp] theorem w_missing_three : (Str.ofString "missing" = Str.ofString "three") = False := by decide +kernel
@[simp] theorem w_missing_hub : (Str.ofString "missing" = Str.ofString "hub") = False := by decide +kernel
@[simp] theorem w_missing_lone : (Str.ofString "missing" = Str.ofString "lone") = False := by decide +kernel
@[simp] theorem w_missing_sides : (Str.ofString "missing" = Str.ofString "sides") = False := by decide +kernel
@[simp] theorem w_missing_tie : (Str.ofString "missing" = Str.ofString "tie") = False := by decide +kernel
@[simp] theorem w_missing_many : (Str.ofString "missing" = Str.ofString "many") = False := by decide +kernel
@[simp] theorem w_missing_way : (Str.ofString "missing" = Str.ofString "way") = False := by decide +kernel
@[simp] theorem w_missing_ends : (Str.ofString "missing" = Str.ofString "ends") = False := by decide +kernel
@[simp] theorem w_missing_told : (Str.ofString "missing" = Str.ofString "told") = False := by decide +kernel
@[simp] theorem w_missing_not : (Str.ofString "missing" = Str.ofString "not") = False := by decide +kernel
@[simp] theorem w_missing_both : (Str.ofString "missing" = Str.ofString "both") = False := by decide +kernel
@[simp] theorem w_missing_either : (Str.ofString "missing" = Str.ofString "either") = False := by decide +kernel
@[simp] theorem w_missing_one : (Str.ofString "missing" = Str.ofString "one") = False := by decide +kernel
@[simp] theorem w_missing_lots : (Str.ofString "missing" = Str.ofString "lots") = False := by decide +kernel
@[simp] theorem w_missing_words : (Str.ofString "missing" = Str.ofString "words") = False := by decide +kernel
@[simp] theorem w_missing_web : (Str.ofString "missing" = Str.ofString "web") = False := by decide +kernel
@[simp] theorem w_both_odd : (Str.ofString "both" = Str.ofString "odd") = False := by decide +kernel
@[simp] theorem w_both_joined : (Str.ofString "both" = Str.ofString "joined") = False := by decide +kernel
@[simp] theorem w_both_ring : (Str.ofString "both" = Str.ofString "ring") = False := by decide +kernel
@[simp] theorem w_both_three : (Str.ofString "both" = Str.ofString "three") = False := by decide +kernel
@[simp] theorem w_both_hub : (Str.ofString "both" = Str.ofString "hub") = False := by decide +kernel
@[simp] theorem w_both_lone : (Str.ofString "both" = Str.ofString "lone") = False := by decide +kernel
@[simp] theorem w_both_sides : (Str.ofString "both" = Str.ofString "sides") = False := by decide +kernel
@[simp] theorem w_both_tie : (Str.ofString "both" = Str.ofString "tie") = False := by decide +kernel
@[simp] theorem w_both_many : (Str.ofString "both" = Str.ofString "many") = False := by decide +kernel
@[simp] theorem w_both_way : (Str.ofString "both" = Str.ofString "way") = False := by decide +kernel
@[simp] theorem w_both_ends : (Str.ofString "both" = Str.ofString "ends") = False := by decide +kernel
@[simp] theorem w_both_told : (Str.ofString "both" = Str.ofString "told") = False := by decide +kernel
@[simp] theorem w_both_not : (Str.ofString "both" = Str.ofString "not") = False := by decide +kernel
@[simp] theorem w_both_missing : (Str.ofString "both" = Str.ofString "missing") = False := by decide +kernel
@[simp] theorem w_both_either : (Str.ofString "both" = Str.ofString "either") = False := by decide +kernel
@[simp] theorem w_both_one : (Str.ofString "both" = Str.ofString "one") = False := by decide +kernel
@[simp] theorem w_both_lots : (Str.ofString "both" = Str.ofString "lots") = False := by decide +kernel
@[simp] theorem w_both_words : (Str.ofString "both" = Str.ofString "words") = False := by decide +kernel
@[simp] theorem w_both_web : (Str.ofString "both" = Str.ofString "web") = False := by decide +kernel
@[simp] theorem w_either_odd : (Str.ofString "either" = Str.ofString "odd") = False := by decide +kernel
@[simp] theorem w_either_joined : (Str.ofString "either" = Str.ofString "joined") = False := by decide +kernel
@[simp] theorem w_either_ring : (Str.ofString "either" = Str.ofString "ring") = False := by decide +kernel
@[simp] theorem w_either_three : (Str.ofString "either" = Str.ofString "three") = False := by decide +kernel
@[simp] theorem w_either_hub : (Str.ofString "either" = Str.ofString "hub") = False := by decide +kernel
@[simp] theorem w_either_lone : (Str.ofString "either" = Str.ofString "lone") = False := by decide +kernel
@[simp] theorem w_either_sides : (Str.ofString "either" = Str.ofString "sides") = False := by decide +kernel
@[simp] theorem w_either_tie : (Str.ofString "either" = Str.ofString "tie") = False := by decide +kernel
@[simp] theorem w_either_many : (Str.ofString "either" = Str.ofString "many") = False := by decide +kernel
@[simp] theorem w_either_way : (Str.ofString "either" = Str.ofString "way") = False := by decide +kernel
@[simp] theorem w_either_ends : (Str.ofString "either" = Str.ofString "ends") = False := by decide +kernel
@[simp] theorem w_either_told : (Str.ofString "either" = Str.ofString "told") = False := by decide +kernel
@[simp] theorem w_either_not : (Str.ofString "either" = Str.ofString "not") = False := by decide +kernel
@[simp] theorem w_either_missing : (Str.ofString "either" = Str.ofString "missing") = False := by decide +kernel
@[simp] theorem w_either_both : (Str.ofString "either" = Str.ofString "both") = False := by decide +kernel
@[simp] theorem w_either_one : (Str.ofString "either" = Str.ofString "one") = False := by decide +kernel
@[simp] theorem w_either_lots : (Str.ofString "either" = Str.ofString "lots") = False := by decide +kernel
@[simp] theorem w_either_words : (Str.ofString "either" = Str.ofString "words") = False := by decide +kernel
@[simp] theorem w_either_web : (Str.ofString "either" = Str.ofString "web") = False := by decide +kernel
@[simp] theorem w_one_odd : (Str.ofString "one" = Str.ofString "odd") = False := by decide +kernel
@[simp] theorem w_one_joined : (Str.ofString "one" = Str.ofString "joined") = False := by decide +kernel
@[simp] theorem w_one_ring : (Str.ofString "one" = Str.ofString "ring") = False := by decide +kernel
@[simp] theorem w_one_three : (Str.ofString "one" = Str.ofString "three") = False := by decide +kernel
@[simp] theorem w_one_hub : (Str.ofString "one" = Str.ofString "hub") = False := by decide +kernel
@[simp] theorem w_one_lone : (Str.ofString "one" = Str.ofString "lone") = False := by decide +kernel
@[simp] theorem w_one_sides : (Str.ofString "one" = Str.ofString "sides") = False := by decide +kernel
@[simp] theorem w_one_tie : (Str.ofString "one" = Str.ofString "tie") = False := by decide +kernel
@[simp] theorem w_one_many : (Str.ofString "one" = Str.ofString "many") = False := by decide +kernel
@[simp] theorem w_one_way : (Str.ofString "one" = Str.ofString "way") = False := by decide +kernel
@[simp] theorem w_one_ends : (Str.ofString "one" = Str.ofString "ends") = False := by decide +kernel
@[simp] theorem w_one_told : (Str.ofString "one" = Str.ofString "told") = False := by decide +kernel
@[simp] theorem w_one_not : (Str.ofString "one" = Str.ofString "not") = False := by decide +kernel
@[simp] theorem w_one_missing : (Str.ofString "one" = Str.ofString "missing") = False := by decide +kernel
@[simp] theorem w_one_both : (Str.ofString "one" = Str.ofString "both") = False := by decide +kernel
@[simp] theorem w_one_either : (Str.ofString "one" = Str.ofString "either") = False := by decide +kernel
@[simp] theorem w_one_lots : (Str.ofString "one" = Str.ofString "lots") = False := by decide +kernel
@[simp] theorem w_one_words : (Str.ofString "one" = Str.ofString "words") = False := by decide +kernel
@[simp] theorem w_one_web : (Str.ofString "one" = Str.ofString "web") = False := by decide +kernel
@[simp] theorem w_lots_odd : (Str.ofString "lots" = Str.ofString "odd") = False := by decide +kernel
@[simp] theorem w_lots_joined : (Str.ofString "lots" = Str.ofString "joined") = False := by decide +kernel
@[simp] theorem w_lots_ring : (Str.ofString "lots" = Str.ofString "ring") = False := by decide +kernel
@[simp] theorem w_lots_three : (Str.ofString "lots" = Str.ofString "three") = False := by decide +kernel
@[simp] theorem w_lots_hub : (Str.ofString "lots" = Str.ofString "hub") = False := by decide +kernel
@[simp] theorem w_lots_lone : (Str.ofString "lots" = Str.ofString "lone") = False := by decide +kernel
@[simp] theorem w_lots_sides : (Str.ofString "lots" = Str.ofString "sides") = False := by decide +kernel
@[simp] theorem w_lots_tie : (Str.ofString "lots" = Str.ofString "tie") = False := by decide +kernel
@[simp] theorem w_lots_many : (Str.ofString "lots" = Str.ofString "many") = False := by decide +kernel
@[simp] theorem w_lots_way : (Str.ofString "lots" = Str.ofString "way") = False := by decide +kernel
@[simp] theorem w_lots_ends : (Str.ofString "lots" = Str.ofString "ends") = False := by decide +kernel
@[simp] theorem w_lots_told : (Str.ofString "lots" = Str.ofString "told") = False := by decide +kernel
@[simp] theorem w_lots_not : (Str.ofString "lots" = Str.ofString "not") = False := by decide +kernel
@[simp] theorem w_lots_missing : (Str.ofString "lots" = Str.ofString "missing") = False := by decide +kernel
@[simp] theorem w_lots_both : (Str.ofString "lots" = Str.ofString "both") = False := by decide +kernel
@[simp] theorem w_lots_either : (Str.ofString "lots" = Str.ofString "either") = False := by decide +kernel
@[simp] theorem w_lots_one : (Str.ofString "lots" = Str.ofString "one") = False := by decide +kernel
@[simp] theorem w_lots_words : (Str.ofString "lots" = Str.ofString "words") = False := by decide +kernel
@[simp] theorem w_lots_web : (Str.ofString "lots" = Str.ofString "web") = False := by decide +kernel
@[simp] theorem w_words_odd : (Str.ofString "words" = Str.ofString "odd") = False := by decide +kernel
@[simp] theorem w_words_joined : (Str.ofString "words" = Str.ofString "joined") = False := by decide +kernel
@[simp] theorem w_words_ring : (Str.ofString "words" = Str.ofString "ring") = False := by decide +kernel
@[simp] theorem w_words_three : (Str.ofString "words" = Str.ofString "three") = False := by decide +kernel
@[simp] theorem w_words_hub : (Str.ofString "words" = Str.ofString "hub") = False := by decide +kernel
@[simp] theorem w_words_lone : (Str.ofString "words" = Str.ofString "lone") = False := by decide +kernel
@[simp] theorem w_words_sides : (Str.ofString "words" = Str.ofString "sides") = False := by decide +kernel
@[simp] theorem w_words_tie : (Str.ofString "words" = Str.ofString "tie") = False := by decide +kernel
@[simp] theorem w_words_many : (Str.ofString "words" = Str.ofString "many") = False := by decide +kernel
@[simp] theorem w_words_way : (Str.ofString "words" = Str.ofString "way") = False := by decide +kernel
@[simp] theorem w_words_ends : (Str.ofString "words" = Str.ofString "ends") = False := by decide +kernel
@[simp] theorem w_words_told : (Str.ofString "words" = Str.ofString "told") = False := by decide +kernel
@[simp] theorem w_words_not : (Str.ofString "words" = Str.ofString "not") = False := by decide +kernel
@[simp] theorem w_words_missing : (Str.ofString "words" = Str.ofString "missing") = False := by decide +kernel
@[simp] theorem w_words_both : (Str.ofString "words" = Str.ofString "both") = False := by decide +kernel
@[simp] theorem w_words_either : (Str.ofString "words" = Str.ofString "either") = False := by decide +kernel
@[simp] theorem w_words_one : (Str.ofString "words" = Str.ofString "one") = False := by decide +kernel
@[simp] theorem w_words_lots : (Str.ofString "words" = Str.ofString "lots") = False := by decide +kernel
@[simp] theorem w_words_web : (Str.ofString "words" = Str.ofString "web") = False := by decide +kernel
@[simp] theorem w_web_odd : (Str.ofString "web" = Str.ofString "odd") = False := by decide +kernel
@[simp] theorem w_web_joined : (Str.ofString "web" = Str.ofString "joined") = False := by decide +kernel
@[simp] theorem w_web_ring : (Str.ofString "web" = Str.ofString "ring") = False := by decide +kernel
@[simp] theorem w_web_three : (Str.ofString "web" = Str.ofString "three") = False := by decide +kernel
@[simp] theorem w_web_hub : (Str.ofString "web" = Str.ofString "hub") = False := by decide +kernel
@[simp] theorem w_web_lone : (Str.ofString "web" = Str.ofString "lone") = False := by decide +kernel
@[simp] theorem w_web_sides : (Str.ofString "web" = Str.ofString "sides") = False := by decide +kernel
@[simp] theorem w_web_tie : (Str.ofString "web" = Str.ofString "tie") = False := by decide +kernel
@[simp] theorem w_web_many : (Str.ofString "web" = Str.ofString "many") = False := by decide +kernel
@[simp] theorem w_web_way : (Str.ofString "web" = Str.ofString "way") = False := by decide +kernel
@[simp] theorem w_web_ends : (Str.ofString "web" = Str.ofString "ends") = False := by decide +kernel
@[simp] theorem w_web_told : (Str.ofString "web" = Str.ofString "told") = False := by decide +kernel
@[simp] theorem w_web_not : (Str.ofString "web" = Str.ofString "not") = False := by decide +kernel
@[simp] theorem w_web_missing : (Str.ofString "web" = Str.ofString "missing") = False := by decide +kernel
@[simp] theorem w_web_both : (Str.ofString "web" = Str.ofString "both") = False := by decide +kernel
@[simp] theorem w_web_either : (Str.ofString "web" = Str.ofString "either") = False := by decide +kernel
@[simp] theorem w_web_one : (Str.ofString "web" = Str.ofString "one") = False := by decide +kernel
@[simp] theorem w_web_lots : (Str.ofString "web" = Str.ofString "lots") = False := by decide +kernel
@[simp] theorem w_web_words : (Str.ofString "web" = Str.ofString "words") = False := by decide +kernel
end Dv

namespace Dv
open PySem PySem.Spec PyProof.Rows L2 Df
/-! ### wishes -/
inductive Wd | odd | joined | ring | three | hub | lone | sides
inductive W
  | sg (w : Wd) | many (k : Nat) | ends (p k : Nat) | told (bs : List Bool) | tie (a b : Nat) | way (a b : Nat)
  | neg (w : W) | mis (w : W) | both (a b : W) | either (a b : W) | one (a b : W)
def wdS : Wd → Str
  | .odd => "odd" | .joined => "joined" | .ring => "ring" | .three => "three" | .hub => "hub" | .lone => "lone" | .sides => "sides"
def wD : W → D
  | .sg w => .tup [.str (wdS w)]
  | .many k => .tup [.str "many", .int (k : Int)]
  | .ends p k => .tup [.str "ends", .int (p : Int), .int (k : Int)]
  | .told bs => .tup [.str "told", .tup (bs.map D.bl)]
  | .tie a b => .tup [.str "tie", .int (a : Int), .int (b : Int)]
  | .way a b => .tup [.str "way", .int (a : Int), .int (b : Int)]
  | .neg w => .tup [.str "not", wD w]
  | .mis w => .tup [.str "missing", wD w]
  | .both a b => .tup [.str "both", wD a, wD b]
  | .either a b => .tup [.str "either", wD a, wD b]
  | .one a b => .tup [.str "one", wD a, wD b]
/-- how many parts -/
def W.sz : W → Nat
  | .neg w => w.sz + 1
  | .mis w => w.sz + 1
  | .both a b => a.sz + b.sz + 1
  | .either a b => a.sz + b.sz + 1
  | .one a b => a.sz + b.sz + 1
  | _ => 1
/-- a tie of two places -/
def tp (a b : Nat) : D := .tup [.int (a : Int), .int (b : Int)]
/-- a wish of a frame -/
def W.ok (n : Nat) (ts : List D) : W → Prop
  | .sg _ => True
  | .many k => k ≤ 99
  | .ends p k => p < n ∧ k ≤ 99
  | .told bs => bs.length = 2 ^ ts.length
  | .tie a b => tp a b ∈ ts
  | .way a b => a < b ∧ b < n
  | .neg w => w.ok n ts
  | .mis w => w.ok n ts
  | .both a b => a.ok n ts ∧ b.ok n ts
  | .either a b => a.ok n ts ∧ b.ok n ts
  | .one a b => a.ok n ts ∧ b.ok n ts
/-- the web of a number, its ties -/
def eK (ts : List D) (k : Nat) : Ed := (wbK ts k).map keyD
def deg (E : Ed) (p : Nat) : Nat := (nearL E (p : Int)).length
/-- which webs have it -/
def TrW (n : Nat) (ts : List D) (k : Nat) : Wd → Prop
  | .odd => (wbK ts k).length % 2 = 1
  | .joined => ∃ f, Mk (eK ts k) n f ∧ Df.cnt f n = 1
  | .ring => Cyc (eK ts k)
  | .three => ∃ a b c : Int, Adj (eK ts k) a b ∧ Adj (eK ts k) b c ∧ Adj (eK ts k) a c
  | .hub => ∃ p, p < n ∧ deg (eK ts k) p + 1 = n
  | .lone => ∃ p, p < n ∧ deg (eK ts k) p = 0
  | .sides => ∃ c, Col (eK ts k) c
def Tr (n : Nat) (ts : List D) : W → Nat → Prop
  | .sg w, k => TrW n ts k w
  | .many j, k => j ≤ (wbK ts k).length
  | .ends p j, k => j ≤ deg (eK ts k) p
  | .told bs, k => bs[k]? = some true
  | .tie a b, k => tp a b ∈ wbK ts k
  | .way a b, k => Rch (eK ts k) (a : Int) (b : Int)
  | .neg w, k => ¬ Tr n ts w k
  | .mis w, k => Tr n ts w (2 ^ ts.length - 1 - k)
  | .both a b, k => Tr n ts a k ∧ Tr n ts b k
  | .either a b, k => Tr n ts a k ∨ Tr n ts b k
  | .one a b, k => ¬ (Tr n ts a k ↔ Tr n ts b k)
open Classical in
noncomputable def tr (n : Nat) (ts : List D) (w : W) (k : Nat) : Bool := decide (Tr n ts w k)
/-! ### in -/
theorem wbK_sub : ∀ {ts : List D} {k : Nat}, (wbK ts k).Sublist ts
  | [], _ => by simp [wbK]
  | t :: ts, k => by
    rw [wbK]
    split
    · exact (wbK_sub).cons₂ t
    · exact (wbK_sub).cons t
theorem Frm.web {n : Nat} {ts : List D} (h : Frm n ts) (k : Nat) : TW n (wbK ts k) := h.tw.sub wbK_sub
theorem inW_iff {t : D} {ws : List D} (ht : isPr t = true) (hw : AllPr ws) : inW t ws = true ↔ t ∈ ws := by
  unfold inW
  rw [List.any_eq_true]
  constructor
  · rintro ⟨y, hy, e⟩
    rw [← pr_inj (hw y hy) ht (of_decide_eq_true e)]
    exact hy
  · exact fun h => ⟨t, h, decide_eq_true rfl⟩
theorem AllB.sub {ws zs : List D} (h : AllB ws) (hs : ∀ z ∈ zs, z ∈ ws) : AllB zs := fun z hz => h z (hs z hz)
end Dv

namespace Dv
open PySem PySem.Spec PyProof.Rows L2 Df
/-! ### has -/
noncomputable def thB (iN : Nat) : DenS := (sSeq (sAsg (.nm 3) (dCallF iN 2 (dCons (dVar 0) (dCons (dVar 2) dNil))))
    (sIf (dTru (dAb true (iVal (dCallF iN 2 (dCons (dVar 0) (dCons (dVar 1) dNil)))) (.nm 4) tYesD (dOp inD (dVar 4) (dVar 3)) [4])) (sRet (dC (.bl true))) sNil))
noncomputable def threeF (iN : Nat) : DenS := (sSeq (sFor (iVal (dVar 0)) (.tp [1, 2]) (thB iN))
    (sRet (dC (.bl false))))
noncomputable def shR7 (iS : Nat) : DenS := (sRet (dOp isnD (dCallF iS 2 (dCons (dVar 0) (dCons (dVar 2) dNil))) (dC .non)))
noncomputable def shR6 (iN iS : Nat) : DenS := (sSeq (sIf (dBl (dOp eqD (dVar 1) (dC (.str "lone")))) (sRet (dAb true (iRange1 (dCons (dOp ixD (dVar 0) (dC (.int 0))) dNil)) (.nm 3) tYesD (dOp eqD (dCl lenD (dCons (dCallF iN 2 (dCons (dVar 2) (dCons (dVar 3) dNil))) dNil)) (dC (.int 0))) [3])) sNil) (shR7 iS))
noncomputable def shapeF (iN iP iR iS iH : Nat) : DenS := (sSeq (sIf (dBl (dOp eqD (dVar 1) (dC (.str "odd")))) (sRet (dOp eqD (dOp modD (dCl lenD (dCons (dVar 2) dNil)) (dC (.int 2))) (dC (.int 1)))) sNil)
    (sSeq (sIf (dBl (dOp eqD (dVar 1) (dC (.str "joined")))) (sRet (dOp eqD (dCl lenD (dCons (dCallF iP 2 (dCons (dVar 0) (dCons (dVar 2) dNil))) dNil)) (dC (.int 1)))) sNil)
    (sSeq (sIf (dBl (dOp eqD (dVar 1) (dC (.str "ring")))) (sRet (dOp isnD (dCallF iR 2 (dCons (dVar 0) (dCons (dVar 2) dNil))) (dC .non))) sNil)
    (sSeq (sIf (dBl (dOp eqD (dVar 1) (dC (.str "three")))) (sRet (dCallF iH 1 (dCons (dVar 2) dNil))) sNil)
    (sSeq (sIf (dBl (dOp eqD (dVar 1) (dC (.str "hub")))) (sRet (dAb true (iRange1 (dCons (dOp ixD (dVar 0) (dC (.int 0))) dNil)) (.nm 3) tYesD (dOp eqD (dCl lenD (dCons (dCallF iN 2 (dCons (dVar 2) (dCons (dVar 3) dNil))) dNil)) (dOp subD (dOp ixD (dVar 0) (dC (.int 0))) (dC (.int 1)))) [3])) sNil)
    (shR6 iN iS))))))
noncomputable def simpleF (iN iW iK iG : Nat) : DenS := (sSeq (sAsg (.nm 3) (dOp ixD (dVar 1) (dC (.int 0))))
    (sSeq (sIf (dBl (dOp eqD (dVar 3) (dC (.str "tie")))) (sRet (dOp inD (dTup (dCons (dOp ixD (dVar 1) (dC (.int 1))) (dCons (dOp ixD (dVar 1) (dC (.int 2))) dNil))) (dVar 2))) sNil)
    (sSeq (sIf (dBl (dOp eqD (dVar 3) (dC (.str "many")))) (sRet (dOp geD (dCl lenD (dCons (dVar 2) dNil)) (dOp ixD (dVar 1) (dC (.int 1))))) sNil)
    (sSeq (sIf (dBl (dOp eqD (dVar 3) (dC (.str "way")))) (sRet (dOp inD (dOp ixD (dVar 1) (dC (.int 2))) (dCallF iW 2 (dCons (dVar 2) (dCons (dOp ixD (dVar 1) (dC (.int 1))) dNil))))) sNil)
    (sSeq (sIf (dBl (dOp eqD (dVar 3) (dC (.str "ends")))) (sRet (dOp geD (dCl lenD (dCons (dCallF iN 2 (dCons (dVar 2) (dCons (dOp ixD (dVar 1) (dC (.int 1))) dNil))) dNil)) (dOp ixD (dVar 1) (dC (.int 2))))) sNil)
    (sSeq (sIf (dBl (dOp eqD (dVar 3) (dC (.str "told")))) (sRet (dOp ixD (dOp ixD (dVar 1) (dC (.int 1))) (dCallF iK 2 (dCons (dVar 0) (dCons (dVar 2) dNil))))) sNil)
    (sRet (dCallF iG 3 (dCons (dVar 0) (dCons (dVar 3) (dCons (dVar 2) dNil)))))))))))
noncomputable def hasF (iM iH iX : Nat) : DenS := (sSeq (sAsg (.nm 3) (dOp ixD (dVar 1) (dC (.int 0))))
    (sSeq (sIf (dBl (dOp eqD (dVar 3) (dC (.str "not")))) (sRet (dUn notD (dCallF iH 3 (dCons (dVar 0) (dCons (dOp ixD (dVar 1) (dC (.int 1))) (dCons (dVar 2) dNil)))))) sNil)
    (sSeq (sIf (dBl (dOp eqD (dVar 3) (dC (.str "missing")))) (sRet (dCallF iH 3 (dCons (dVar 0) (dCons (dOp ixD (dVar 1) (dC (.int 1))) (dCons (dCallF iM 2 (dCons (dVar 0) (dCons (dVar 2) dNil))) dNil))))) sNil)
    (sSeq (sIf (dBl (dOp eqD (dVar 3) (dC (.str "both")))) (sRet (dAndV (dCallF iH 3 (dCons (dVar 0) (dCons (dOp ixD (dVar 1) (dC (.int 1))) (dCons (dVar 2) dNil)))) (dCallF iH 3 (dCons (dVar 0) (dCons (dOp ixD (dVar 1) (dC (.int 2))) (dCons (dVar 2) dNil)))))) sNil)
    (sSeq (sIf (dBl (dOp eqD (dVar 3) (dC (.str "either")))) (sRet (dOrV (dCallF iH 3 (dCons (dVar 0) (dCons (dOp ixD (dVar 1) (dC (.int 1))) (dCons (dVar 2) dNil)))) (dCallF iH 3 (dCons (dVar 0) (dCons (dOp ixD (dVar 1) (dC (.int 2))) (dCons (dVar 2) dNil)))))) sNil)
    (sSeq (sIf (dBl (dOp eqD (dVar 3) (dC (.str "one")))) (sRet (dOp neD (dCallF iH 3 (dCons (dVar 0) (dCons (dOp ixD (dVar 1) (dC (.int 1))) (dCons (dVar 2) dNil)))) (dCallF iH 3 (dCons (dVar 0) (dCons (dOp ixD (dVar 1) (dC (.int 2))) (dCons (dVar 2) dNil)))))) sNil)
    (sRet (dCallF iX 3 (dCons (dVar 0) (dCons (dVar 1) (dCons (dVar 2) dNil)))))))))))
/-- where the defs of has are: number, missing, near, ways, pieces, ring, sides, three, shape, simple, has -/
structure HasAt (bs : Bodies) (iK iM iN iW iP iR iS iT iG iX iH : Nat) : Prop where
  k : bs[iK]? = some (numberF, 5)
  m : bs[iM]? = some (missF, 3)
  n : bs[iN]? = some (nearF, 5)
  w : bs[iW]? = some (waysF iN, 6)
  p : bs[iP]? = some (piecesF iW, 6)
  r : bs[iR]? = some (ringF iW, 6)
  s : bs[iS]? = some (sidesF iP iW, 8)
  t : bs[iT]? = some (threeF iN, 5)
  g : bs[iG]? = some (shapeF iN iP iR iS iT, 4)
  x : bs[iX]? = some (simpleF iN iW iK iG, 4)
  h : bs[iH]? = some (hasF iM iH iX, 4)
section
variable {bs : Bodies} {iK iM iN iW iP iR iS iT iG iX iH m : Nat} {S : Sto} {n : Nat} {ts : List D} {k : Nat}
end
end Dv

namespace Dv
open PySem PySem.Spec PyProof.Rows L2 Df
section
variable {bs : Bodies} {iK iM iN iW iP iR iS iT iG iX iH m : Nat} {S : Sto} {n : Nat} {ts : List D} {k : Nat}
end
end Dv

namespace Dv
open PySem PySem.Spec PyProof.Rows L2 Df
/-- a wish without wishes in it -/
def W.pl : W → Bool
  | .neg _ => false | .mis _ => false | .both _ _ => false | .either _ _ => false | .one _ _ => false
  | _ => true
section
variable {bs : Bodies} {iK iM iN iW iP iR iS iT iG iX iH m : Nat} {S : Sto} {n : Nat} {ts : List D} {k : Nat}
end
end Dv

namespace Dv
open PySem PySem.Spec PyProof.Rows L2 Df
/-! ### comprehensions that lay new things -/
/-- all but the thing at L stays -/
structure GwX (L : Nat) (S T : Sto) : Prop where
  kp : ∀ (j : Nat) o, j ≠ L → S[j]? = some o → T[j]? = some o
  ln : S.length ≤ T.length
theorem Gw.gx {S T : Sto} {L : Nat} (g : Gw S T) : GwX L S T := ⟨fun j o _ e => g.kp j o e, g.ln⟩
theorem GwX.trans {L : Nat} {S T V : Sto} (a : GwX L S T) (b : GwX L T V) : GwX L S V := ⟨fun j o n e => b.kp j o n (a.kp j o n e), Nat.le_trans a.ln b.ln⟩
/-- two lists side by side -/
def Zp (P : D → D → Prop) : List D → List D → Prop
  | [], ys => ys = []
  | x :: xs, ys => ∃ y r, ys = y :: r ∧ P x y ∧ Zp P xs r
theorem Zp.imp {P Q : D → D → Prop} (h : ∀ x y, P x y → Q x y) : ∀ {xs ys : List D}, Zp P xs ys → Zp Q xs ys
  | [], _, z => z
  | x :: xs, _, ⟨y, r, e, p, z⟩ => ⟨y, r, e, h x y p, Zp.imp h z⟩
theorem Zp.snoc {P : D → D → Prop} {x y : D} (p : P x y) : ∀ {xs ys : List D}, Zp P xs ys → Zp P (xs ++ [x]) (ys ++ [y])
  | [], ys, z => by have z : ys = [] := z; subst z; exact ⟨y, [], rfl, p, rfl⟩
  | a :: xs, _, ⟨b, r, e, q, z⟩ => by subst e; exact ⟨b, r ++ [y], rfl, q, Zp.snoc p z⟩
theorem Zp.len {P : D → D → Prop} : ∀ {xs ys : List D}, Zp P xs ys → xs.length = ys.length
  | [], ys, z => by have z : ys = [] := z; subst z; rfl
  | _ :: _, _, ⟨_, _, e, _, z⟩ => by subst e; simp [Zp.len z]
theorem Zp.at {P : D → D → Prop} : ∀ {xs ys : List D} {i : Nat} {x : D}, Zp P xs ys → xs[i]? = some x → ∃ y, ys[i]? = some y ∧ P x y
  | [], _, i, x, _, e => by simp at e
  | a :: xs, _, 0, x, ⟨b, r, e, q, z⟩, h => by subst e; simp at h; subst h; exact ⟨b, rfl, q⟩
  | a :: xs, _, i + 1, x, ⟨b, r, e, q, z⟩, h => by
    subst e
    obtain ⟨y, h1, h2⟩ := Zp.at (i := i) z (by simpa using h)
    exact ⟨y, by simpa using h1, h2⟩
theorem Zp.map {P : D → D → Prop} {g : D → D} : ∀ {xs ys : List D}, Zp P xs ys → (∀ x y, x ∈ xs → P x y → y = g x) → ys = xs.map g
  | [], _, z, _ => z
  | a :: xs, _, ⟨b, r, e, q, z⟩, h => by
    subst e
    rw [List.map_cons, h a b List.mem_cons_self q, Zp.map z fun x y hx => h x y (List.mem_cons_of_mem _ hx)]
/-! ### places reached -/
/-- so far: all unlike, all reached, each one tied to one ahead of it -/
structure Rs (E : Ed) (n : Nat) (p : Int) (fs : List Int) : Prop where
  hd : fs[0]? = some p
  nd : fs.Nodup
  rc : ∀ x ∈ fs, Rch E p x ∧ 0 ≤ x ∧ x < n
  bk : ∀ i x, 0 < i → fs[i]? = some x → ∃ j y, j < i ∧ fs[j]? = some y ∧ Adj E y x
theorem Rs.len {E : Ed} {n : Nat} {p : Int} {fs : List Int} (h : Rs E n p fs) : fs.length ≤ n := by
  have := nd_len (m := (List.range n).map fun (x : Nat) => (x : Int)) h.nd fun x hx => by
    obtain ⟨_, h1, h2⟩ := h.rc x hx
    exact List.mem_map.mpr ⟨x.toNat, List.mem_range.mpr (by omega), by omega⟩
  simpa using this
theorem Rs.snoc {E : Ed} {n : Nat} {p : Int} {fs : List Int} (h : Rs E n p fs) {i : Nat} {z o : Int} (hz : fs[i]? = some z) (a : Adj E z o) (b : 0 ≤ o ∧ o < n) (no : o ∉ fs) : Rs E n p (fs ++ [o]) := by
  have li := (List.getElem?_eq_some_iff.mp hz).1
  refine ⟨by rw [List.getElem?_append_left (by omega)]; exact h.hd, List.nodup_append.mpr ⟨h.nd, by simp, fun x hx y hy e => no (by rw [← List.mem_singleton.mp hy, ← e]; exact hx)⟩, fun x hx => ?_, fun j x hj hx => ?_⟩
  · rcases List.mem_append.mp hx with q | q
    · exact h.rc x q
    · rw [List.mem_singleton.mp q]
      exact ⟨(h.rc z (List.mem_of_getElem? hz)).1.step a, b⟩
  · by_cases c : j < fs.length
    · rw [List.getElem?_append_left c] at hx
      obtain ⟨j', y, h1, h2, h3⟩ := h.bk j x hj hx
      exact ⟨j', y, h1, by rw [List.getElem?_append_left (by omega)]; exact h2, h3⟩
    · have l2 := (List.getElem?_eq_some_iff.mp hx).1
      rw [List.length_append, List.length_singleton] at l2
      have e : j = fs.length := by omega
      subst e
      simp at hx
      subst hx
      exact ⟨i, z, li, by rw [List.getElem?_append_left li]; exact hz, a⟩
section
variable {bs : Bodies} {m i : Nat} {S : Sto} {ys : List D} {n : Nat}
end
end Dv

namespace Dv
open PySem PySem.Spec PyProof.Rows L2 Df
/-! ### two sides -/
/-- sides so far: of the places in X -/
structure Sds (E : Ed) (n : Nat) (f : Nat → Int) (kvs : List (L2.Key × D)) (X : Nat → Prop) : Prop where
  dom : ∀ x : Nat, x < n → ((valK kvs (.inl (x : Int))).isSome = true ↔ X x)
  val : ∀ (x : Nat) v, x < n → valK kvs (.inl (x : Int)) = some v → ∃ u : Int, v = .int u ∧ (u = 0 ∨ u = 1) ∧ ∀ c, Col E c → u = (c (x : Int) + c (f x)) % 2
  len : kvs.length ≤ 1000
theorem valK_cons {q : L2.Key × D} {r : List (L2.Key × D)} {k : L2.Key} : valK (q :: r) k = if q.1 = k then some q.2 else valK r k := by
  unfold valK
  rw [List.find?_cons]
  by_cases e : q.1 = k <;> simp [e]
theorem val_map {k j : L2.Key} {v : D} : ∀ {kvs : List (L2.Key × D)}, valK (kvs.map fun q => if q.1 = k then (q.1, v) else q) j = if j = k then (valK kvs k).map (fun _ => v) else valK kvs j
  | [] => by simp [valK]
  | q :: r => by
    rw [List.map_cons, valK_cons, valK_cons, valK_cons, val_map]
    by_cases e : q.1 = k
    · by_cases c : j = k
      · subst c; simp [e]
      · have c' : ¬ (k = j) := fun z => c z.symm
        simp [e, c, c']
    · by_cases c : j = k
      · subst c; simp [e]
      · simp [e, c]
theorem val_any {k : L2.Key} : ∀ {kvs : List (L2.Key × D)}, (kvs.any fun q => decide (q.1 = k)) = (valK kvs k).isSome
  | [] => rfl
  | q :: r => by
    rw [List.any_cons, valK_cons, val_any]
    by_cases e : q.1 = k <;> simp [e]
theorem val_app {k j : L2.Key} {v : D} : ∀ {kvs : List (L2.Key × D)}, valK (kvs ++ [(k, v)]) j = match valK kvs j with | some d => some d | none => if k = j then some v else none
  | [] => by rw [List.nil_append, valK_cons]; rfl
  | q :: r => by
    rw [List.cons_append, valK_cons, valK_cons, val_app]
    by_cases e : q.1 = j <;> simp [e]
theorem val_set {kvs : List (L2.Key × D)} {k j : L2.Key} {v : D} : valK (setK kvs k v) j = if j = k then some v else valK kvs j := by
  unfold setK
  rw [val_any]
  cases h : valK kvs k with
  | some d =>
    simp only [Option.isSome_some, if_true]
    rw [val_map, h]
    rfl
  | none =>
    simp only [Option.isSome_none, Bool.false_eq_true, if_false]
    rw [val_app]
    by_cases c : j = k
    · subst c; simp [h]
    · have c' : ¬ (k = j) := fun z => c z.symm
      rw [if_neg c, if_neg c']
      cases valK kvs j <;> rfl
theorem set_len {kvs : List (L2.Key × D)} {k : L2.Key} {v : D} : (setK kvs k v).length ≤ kvs.length + 1 := by
  unfold setK
  split <;> simp
/-- each place's own side, first of its part -/
theorem Sds.put {E : Ed} {n : Nat} {f : Nat → Int} {kvs : List (L2.Key × D)} {X : Nat → Prop} (h : Sds E n f kvs X) {o : Nat} {u : Int} (hu : u = 0 ∨ u = 1) (hc : ∀ c, Col E c → u = (c (o : Int) + c (f o)) % 2) (hl : kvs.length < 1000) : Sds E n f (setK kvs (.inl (o : Int)) (.int u)) fun x => X x ∨ x = o := by
  refine ⟨fun x hx => ?_, fun x v hx hv => ?_, by have := set_len (kvs := kvs) (k := .inl (o : Int)) (v := .int u); omega⟩
  · rw [val_set]
    by_cases e : x = o
    · subst e; simp
    · have : ¬ ((Sum.inl (x : Int) : L2.Key) = Sum.inl (o : Int)) := fun z => e (by have := Sum.inl.inj z; omega)
      rw [if_neg this, h.dom x hx]
      simp [e]
  · rw [val_set] at hv
    by_cases e : x = o
    · subst e
      rw [if_pos rfl] at hv
      cases hv
      exact ⟨u, rfl, hu, hc⟩
    · have : ¬ ((Sum.inl (x : Int) : L2.Key) = Sum.inl (o : Int)) := fun z => e (by have := Sum.inl.inj z; omega)
      rw [if_neg this] at hv
      exact h.val x v hx hv
section
variable {bs : Bodies} {m iR i : Nat} {S : Sto} {ys : List D} {n : Nat} {f : Nat → Int}
end
end Dv

namespace Dv
open PySem PySem.Spec PyProof.Rows L2 Df
def sdv (kvs : List (L2.Key × D)) (x : Int) : Int := match valK kvs (.inl x) with
  | some (.int u) => u
  | _ => 0
section
variable {bs : Bodies} {m iR i : Nat} {S : Sto} {ys : List D} {n : Nat} {f : Nat → Int}
theorem Sds.at {E : Ed} {kvs : List (L2.Key × D)} {X : Nat → Prop} (h : Sds E n f kvs X) {x : Nat} (hx : x < n) (hX : X x) : valK kvs (.inl (x : Int)) = some (.int (sdv kvs (x : Int))) ∧ (sdv kvs (x : Int) = 0 ∨ sdv kvs (x : Int) = 1) ∧ ∀ c, Col E c → sdv kvs (x : Int) = (c (x : Int) + c (f x)) % 2 := by
  obtain ⟨v, hv⟩ := Option.isSome_iff_exists.mp ((h.dom x hx).mpr hX)
  obtain ⟨u, rfl, h1, h2⟩ := h.val x v hx hv
  have e : sdv kvs (x : Int) = u := by unfold sdv; rw [hv]
  rw [e]
  exact ⟨hv, h1, h2⟩
end
end Dv

namespace Dv
open PySem PySem.Spec PyProof.Rows L2 Df
/-! ### the facts of a web -/
/-- the list of the part about each place -/
structure Lots (T : Sto) (n : Nat) (E : Ed) (a : Nat) (rs : List Nat) : Prop where
  hs : T[a]? = some (.lst true (rs.map D.ref))
  ln : rs.length = n
  it : ∀ (i : Nat) r, rs[i]? = some r → ∃ cs : List Int, T[r]? = some (.lst true (cs.map D.int)) ∧ cs.length ≤ 8 ∧ cs.Pairwise (· ≤ ·) ∧ ∀ x, x ∈ cs ↔ Rch E (i : Int) x
theorem Lots.up {T V : Sto} {n : Nat} {E : Ed} {a : Nat} {rs : List Nat} (h : Lots T n E a rs) (g : Gw T V) : Lots V n E a rs := ⟨g.kp _ _ h.hs, h.ln, fun i r hr => by obtain ⟨cs, h1, h2⟩ := h.it i r hr; exact ⟨cs, g.kp _ _ h1, h2⟩⟩
def degL (E : Ed) (n : Nat) : List Int := (List.range n).map fun p => (deg E p : Int)
/-- the words that are so -/
def Wds (n : Nat) (ts : List D) (k : Nat) (kvs : List (L2.Key × D)) : Prop := ∀ w : Wd, valK kvs (.inr (wdS w)) = some (.bl (tr n ts (.sg w) k))
structure Fct (T : Sto) (n : Nat) (ts : List D) (k l B : Nat) : Prop where
  ex : ∃ (a b c : Nat) (rs : List Nat) (kv kvs : List (L2.Key × D)), T[l]? = some (.dk kv) ∧ valK kv (.inr "lots") = some (.ref a) ∧ valK kv (.inr "many") = some (.ref b) ∧ valK kv (.inr "words") = some (.ref c) ∧ valK kv (.inr "web") = some (.tup (wbK ts k)) ∧ Lots T n (eK ts k) a rs ∧ T[b]? = some (.lst true ((degL (eK ts k) n).map D.int)) ∧ T[c]? = some (.dk kvs) ∧ Wds n ts k kvs ∧ B ≤ l ∧ B ≤ a ∧ B ≤ b ∧ B ≤ c ∧ ∀ r ∈ rs, B ≤ r
theorem Fct.upx {T V : Sto} {n : Nat} {ts : List D} {k l B L : Nat} (h : Fct T n ts k l B) (g : GwX L T V) (hL : L < B) : Fct V n ts k l B := by
  obtain ⟨a, b, c, rs, kv, kvs, h1, h2, h3, h4, h5, h6, h7, h8, h9, b1, b2, b3, b4, b5⟩ := h.ex
  refine ⟨a, b, c, rs, kv, kvs, g.kp _ _ (by omega) h1, h2, h3, h4, h5, ⟨g.kp _ _ (by omega) h6.hs, h6.ln, fun i r hr => ?_⟩, g.kp _ _ (by omega) h7, g.kp _ _ (by omega) h8, h9, b1, b2, b3, b4, b5⟩
  obtain ⟨cs, c1, c2⟩ := h6.it i r hr
  have := b5 r (List.mem_of_getElem? hr)
  exact ⟨cs, g.kp _ _ (by omega) c1, c2⟩
theorem Fct.lo {T : Sto} {n : Nat} {ts : List D} {k l B B' : Nat} (h : Fct T n ts k l B) (hB : B' ≤ B) : Fct T n ts k l B' := by
  obtain ⟨a, b, c, rs, kv, kvs, h1, h2, h3, h4, h5, h6, h7, h8, h9, b1, b2, b3, b4, b5⟩ := h.ex
  exact ⟨a, b, c, rs, kv, kvs, h1, h2, h3, h4, h5, h6, h7, h8, h9, by omega, by omega, by omega, by omega, fun r hr => by have := b5 r hr; omega⟩
theorem Fct.up {T V : Sto} {n : Nat} {ts : List D} {k l B : Nat} (h : Fct T n ts k l B) (g : Gw T V) : Fct V n ts k l B := by
  obtain ⟨a, b, c, rs, kv, kvs, h1, h2, h3, h4, h5, h6, h7, h8, h9, h10⟩ := h.ex
  exact ⟨a, b, c, rs, kv, kvs, g.kp _ _ h1, h2, h3, h4, h5, h6.up g, g.kp _ _ h7, g.kp _ _ h8, h9, h10⟩
section
variable {bs : Bodies} {m iR iS i : Nat} {S : Sto} {n : Nat} {ts : List D} {k : Nat}
/-- the words but three -/
def WdsX (n : Nat) (ts : List D) (k : Nat) (kvs : List (L2.Key × D)) (b : Bool) : Prop := (∀ w : Wd, w ≠ .three → valK kvs (.inr (wdS w)) = some (.bl (tr n ts (.sg w) k))) ∧ valK kvs (.inr "three") = some (.bl b)
theorem WdsX.put {kvs : List (L2.Key × D)} {b b' : Bool} (h : WdsX n ts k kvs b) : WdsX n ts k (setK kvs (.inr "three") (.bl b')) b' := by
  refine ⟨fun w hw => ?_, by rw [val_set, if_pos rfl]⟩
  rw [val_set, if_neg, h.1 w hw]
  intro e
  have e := Sum.inr.inj e
  cases w <;> simp [wdS] at e hw
end
end Dv

namespace Dv
open PySem PySem.Spec PyProof.Rows L2 Df
section
variable {bs : Bodies} {m iR iS i : Nat} {S : Sto} {n : Nat} {ts : List D} {k : Nat}
end
end Dv

namespace Dv
open PySem PySem.Spec PyProof.Rows L2 Df
section
variable {bs : Bodies} {m i : Nat} {S : Sto} {n : Nat} {ts : List D} {k : Nat}
end
/-! ### all webs, by the law -/
section
variable {bs : Bodies} {m i : Nat} {S : Sto} {n : Nat} {ts : List D}
end
end Dv

namespace Dv
open PySem PySem.Spec PyProof.Rows L2 Df
/-! ### things shown, weighed one by one -/
def TngL (S : Sto) (f k w : Nat) (ds : List D) : Prop := ∃ ps, toRs S f ds = some ps ∧ PyData.showableAll ps = true ∧ PyData.leavesShortAll 64 ps = true ∧ PyData.weightAll ps ≤ w ∧ PyData.depthAll ps ≤ k ∧ PyData.hasDictAll ps = false
section
variable {S : Sto} {f k w w' : Nat} {d : D} {ds : List D}
theorem TngL.nil : TngL S f k 0 [] := ⟨[], by cases f <;> rfl, by simp [PyData.showableAll], by simp [PyData.leavesShortAll], by simp [PyData.weightAll], by simp [PyData.depthAll], by simp [PyData.hasDictAll]⟩
theorem TngL.cons (h : Tng S false f k w d) (z : TngL S f k w' ds) : TngL S (f + 1) k (w + w' + 1) (d :: ds) := by
  obtain ⟨p, e, a1, a2, a3, a4, a5⟩ := h
  obtain ⟨ps, es, b1, b2, b3, b4, b5⟩ := z
  refine ⟨p :: ps, ?_, ?_, ?_, ?_, ?_, ?_⟩
  · unfold toRs
    rw [e, es]
  · simp only [PyData.showableAll, a1, b1, Bool.and_self]
  · simp only [PyData.leavesShortAll, a2, b2, Bool.and_self]
  · simp only [PyData.weightAll]; omega
  · simp only [PyData.depthAll]; omega
  · simp_all [PyData.hasDictAll]
theorem TngL.up {f' k' : Nat} (h : TngL S f k w ds) (h1 : f ≤ f') (h2 : k ≤ k') (h3 : w ≤ w') : TngL S f' k' w' ds := by
  obtain ⟨ps, es, b1, b2, b3, b4, b5⟩ := h
  exact ⟨ps, toRs_le h1 es, b1, b2, by omega, by omega, b5⟩
theorem TngL.tup (h : TngL S f k w ds) : Tng S false (f + 1) (k + 1) w (.tup ds) := by
  obtain ⟨ps, e, b1, b2, b3, b4, b5⟩ := h
  refine ⟨.tuple ps, ?_, ?_, ?_, ?_, ?_, ?_⟩
  · unfold toR
    rw [e]; rfl
  · simpa [PyData.showable] using b1
  · simpa [PyData.leavesShort] using b2
  · simpa only [PyData.weight] using b3
  · simp only [PyData.depth]; omega
  · simpa [PyData.hasDict] using b5
theorem TngL.lst {i : Nat} {b : Bool} (hi : S[i]? = some (.lst b ds)) (h : TngL S f k w ds) : Tng S false (f + 1) (k + 1) w (.ref i) := by
  obtain ⟨ps, e, b1, b2, b3, b4, b5⟩ := h
  refine ⟨.list ps, ?_, ?_, ?_, ?_, ?_, ?_⟩
  · unfold toR
    rw [hi]
    simp only
    rw [e]; rfl
  · simpa [PyData.showable] using b1
  · simpa [PyData.leavesShort] using b2
  · simpa only [PyData.weight] using b3
  · simp only [PyData.depth]; omega
  · simpa [PyData.hasDict] using b5
/-- all of one sort -/
theorem TngL.all {n : Nat} (h : ∀ d ∈ ds, Tng S false f k w d) (hn : ds.length ≤ n) : TngL S (f + n) k (n * (w + 1)) ds := by
  obtain ⟨ps, e, b1, b2, b3, b4, b5⟩ := tngs h
  exact ⟨ps, toRs_le (by omega) e, b1, b2, Nat.le_trans b3 (Nat.mul_le_mul_right _ hn), b4, by simpa using b5⟩
theorem TngL.one (h : Tng S false f k w d) : TngL S (f + 1) k (w + 1) [d] := (h.up (Nat.le_refl _) (Nat.le_refl _) (Nat.le_refl _) |> fun z => TngL.cons z TngL.nil).up (by omega) (by omega) (by omega)
end
end Dv

namespace Dv
open PySem PySem.Spec PyProof.Rows L2 Df
/-! ### a word among words -/
/-! ### the facts of all webs -/
structure AF (T : Sto) (n : Nat) (ts : List D) (l : Nat) (rs : List Nat) (B : Nat) : Prop where
  hs : T[l]? = some (.lst true (rs.map D.ref))
  ln : rs.length = 2 ^ ts.length
  it : ∀ (k : Nat) r, rs[k]? = some r → Fct T n ts k r B
  bl : B ≤ l
theorem AF.up {T V : Sto} {n : Nat} {ts : List D} {l B : Nat} {rs : List Nat} (h : AF T n ts l rs B) (g : Gw T V) : AF V n ts l rs B := ⟨g.kp _ _ h.hs, h.ln, fun k r hr => (h.it k r hr).up g, h.bl⟩
theorem AF.ev {T V : Sto} {n : Nat} {ts : List D} {l B r : Nat} {rs : List Nat} {K : O → Prop} (h : AF T n ts l rs B) (e : EvG K r T V) (hr : r < B) : AF V n ts l rs B := ⟨e.kp _ _ (by have := h.bl; omega) h.hs, h.ln, fun k q hq => (h.it k q hq).upx ⟨e.kp, e.ln⟩ hr, h.bl⟩
section
variable {bs : Bodies} {m iR iS iA iL i : Nat} {S : Sto} {n : Nat} {ts : List D}
end
/-! ### the truths of a wish for all webs -/
section
variable {bs : Bodies} {m iP iB : Nat} {S : Sto} {n : Nat} {ts : List D}
end
end Dv

namespace Dv
open PySem PySem.Spec PyProof.Rows L2 Df
/-- the word of a wish, and what stands behind it -/
def W.hd : W → Str
  | .sg w => wdS w | .many _ => "many" | .ends _ _ => "ends" | .told _ => "told" | .tie _ _ => "tie" | .way _ _ => "way"
  | .neg _ => "not" | .mis _ => "missing" | .both _ _ => "both" | .either _ _ => "either" | .one _ _ => "one"
def W.tl : W → List D
  | .sg w => [] | .many k => [.int (k : Int)] | .ends p k => [.int (p : Int), .int (k : Int)] | .told bs => [.tup (bs.map D.bl)] | .tie a b => [.int (a : Int), .int (b : Int)] | .way a b => [.int (a : Int), .int (b : Int)]
  | .neg w => [wD w] | .mis w => [wD w] | .both a b => [wD a, wD b] | .either a b => [wD a, wD b] | .one a b => [wD a, wD b]
section
variable {bs : Bodies} {m iP iB : Nat} {S : Sto} {n : Nat} {ts : List D}
end
end Dv

namespace Dv
open PySem PySem.Spec PyProof.Rows L2 Df
/-! ### wishes drawn -/
section
variable {bs : Bodies} {K : O → Prop} {iT m r n : Nat} {ts : List D} {S : Sto}
end
end Dv

namespace Dv
open PySem PySem.Spec PyProof.Rows L2 Df
section
variable {bs : Bodies} {K : O → Prop} {iT iP iW m r n : Nat} {ts : List D} {S : Sto}
end
end Dv

namespace Dv
open PySem PySem.Spec PyProof.Rows L2 Df
/-! ### the table of a wish -/
section
variable {bs : Bodies} {iV iK iM iN iW iP iR iS iT iG iX iH i m n : Nat} {ts : List D} {S : Sto}
/-! ### a table held against what is due -/
noncomputable def riF (iO : Nat) : DenS := (sSeq (sAsg (.nm 3) (dCallF iO 2 (dCons (dVar 0) (dCons (dVar 1) dNil))))
    (sSeq (sIf (dOrT (dNotT (dTru (dIsi .lst (dVar 3)))) (dBl (dOp neD (dCl reprD (dCons (dVar 3) dNil)) (dCl reprD (dCons (dVar 2) dNil))))) (sRet (dC (.bl false))) sNil)
    (sSeq (sExpr (dMt reverseD (dVar 3) dNil))
    (sSeq (sExpr (dMt appendD (dVar 3) (dCons (dC .non) dNil)))
    (sRet (dC (.bl true)))))))
end
end Dv

namespace Dv
open PySem PySem.Spec PyProof.Rows L2 Df
/-! ### what is a wish -/
noncomputable def coF (iW : Nat) : DenS := (sRet (dAndV (dCallF iW 1 (dCons (dVar 0) dNil)) (dChain (dC (.int 0)) (kLink leD (dVar 0) (kLast leD (dC (.int 99)))))))
noncomputable def itF (iV : Nat) : DenS := (sSeq (sIf (dOrT (dNotT (dTru (dIsi .tup (dVar 1)))) (dBl (dOp neD (dCl lenD (dCons (dVar 1) dNil)) (dCl lenD (dCons (dCallF iV 1 (dCons (dVar 0) dNil)) dNil))))) (sRet (dC (.bl false))) sNil)
    (sRet (dAb false (iVal (dVar 1)) (.nm 2) tYesD (dIsi .bl (dVar 2)) [2])))
noncomputable def w1F (iC iB : Nat) : DenS := (sSeq (sIf (dBl (dOp eqD (dVar 1) (dC (.str "many")))) (sRet (dCallF iC 1 (dCons (dVar 2) dNil))) sNil)
    (sRet (dAndV (dOp eqD (dVar 1) (dC (.str "told"))) (dCallF iB 2 (dCons (dVar 0) (dCons (dVar 2) dNil))))))
noncomputable def w2F (iK iP iC : Nat) : DenS := (sSeq (sIf (dBl (dOp eqD (dVar 1) (dC (.str "tie")))) (sRet (dCallF iK 2 (dCons (dVar 0) (dCons (dTup (dCons (dVar 2) (dCons (dVar 3) dNil))) dNil)))) sNil)
    (sSeq (sIf (dBl (dOp eqD (dVar 1) (dC (.str "way")))) (sRet (dAndV (dCallF iP 2 (dCons (dOp ixD (dVar 0) (dC (.int 0))) (dCons (dVar 2) dNil))) (dAndV (dCallF iP 2 (dCons (dOp ixD (dVar 0) (dC (.int 0))) (dCons (dVar 3) dNil))) (dOp ltD (dVar 2) (dVar 3))))) sNil)
    (sRet (dAndV (dOp eqD (dVar 1) (dC (.str "ends"))) (dAndV (dCallF iP 2 (dCons (dOp ixD (dVar 0) (dC (.int 0))) (dCons (dVar 2) dNil))) (dCallF iC 1 (dCons (dVar 3) dNil)))))))
noncomputable def swF (i1 i2 : Nat) : DenS := (sSeq (sIf (dBl (dOp eqD (dCl lenD (dCons (dVar 1) dNil)) (dC (.int 1)))) (sRet (dOp inD (dOp ixD (dVar 1) (dC (.int 0))) (dC (.tup ((["odd", "joined", "ring", "three", "hub", "lone", "sides"] : List Str).map D.str))))) sNil)
    (sSeq (sIf (dBl (dOp eqD (dCl lenD (dCons (dVar 1) dNil)) (dC (.int 2)))) (sRet (dCallF i1 3 (dCons (dVar 0) (dCons (dOp ixD (dVar 1) (dC (.int 0))) (dCons (dOp ixD (dVar 1) (dC (.int 1))) dNil))))) sNil)
    (sSeq (sIf (dBl (dOp eqD (dCl lenD (dCons (dVar 1) dNil)) (dC (.int 3)))) (sRet (dCallF i2 4 (dCons (dVar 0) (dCons (dOp ixD (dVar 1) (dC (.int 0))) (dCons (dOp ixD (dVar 1) (dC (.int 1))) (dCons (dOp ixD (dVar 1) (dC (.int 2))) dNil)))))) sNil)
    (sRet (dC (.bl false))))))
structure WishAt (bs : Bodies) (iW iP iQ iK iV iC iB i1 i2 iS : Nat) : Prop where
  w : bs[iW]? = some (wholeF, 1)
  p : bs[iP]? = some (placeF iW, 2)
  q : bs[iQ]? = some (pairF iP, 2)
  k : bs[iK]? = some (isTieF iQ, 2)
  v : bs[iV]? = some (websF, 4)
  c : bs[iC]? = some (coF iW, 1)
  b : bs[iB]? = some (itF iV, 3)
  o : bs[i1]? = some (w1F iC iB, 3)
  t : bs[i2]? = some (w2F iK iP iC, 4)
  s : bs[iS]? = some (swF i1 i2, 2)
section
variable {bs : Bodies} {iW iP iQ iK iV iC iB i1 i2 iS m n : Nat} {ts : List D} {S : Sto}
/-! ### the parts, one after another -/
end
end Dv

namespace Dv
open PySem PySem.Spec PyProof.Rows L2 Df
/-! _law_truths -/
section
variable {bs : Bodies} {K : O → Prop} {iT iA iB iW iP iL iR iS iF m n r : Nat} {ts : List D} {S : Sto}
end
end Dv

namespace Dv
open PySem PySem.Spec PyProof.Rows L2 Df
end Dv

namespace Dv
open PySem PySem.Spec PyProof.Rows L2 Df
/-! ### a while whose condition makes new things -/
/-! ### lists of truths -/
/-! ### sums -/
/-! ### zip of two lists -/
/-! ### the first web that has just one of two wishes -/
section
variable {bs : Bodies} {iV iK iM iN iW iP iR iS iT iG iX iH i m n : Nat} {ts : List D} {S : Sto}
end
/-! ### a comprehension over things of any sort -/
/-! ### how many parts -/
end Dv

namespace Dv
open PySem PySem.Spec PyProof.Rows L2 Df
/-! ### pens that refer to other things -/
/-- what is said of a pen hangs on what stands up to it -/
structure PenL (P : Sto → Nat → Prop) : Prop where
  lt : ∀ S r, P S r → r < S.length
  up : ∀ S T r, P S r → (∀ (j : Nat) o, j ≤ r → S[j]? = some o → T[j]? = some o) → P T r
structure EvP (P : Sto → Nat → Prop) (r : Nat) (S S' : Sto) : Prop where
  kp : ∀ (j : Nat) o, j ≠ r → S[j]? = some o → S'[j]? = some o
  pn : P S' r
  ln : S.length ≤ S'.length
section
variable {P : Sto → Nat → Prop} {r : Nat} {S S' T : Sto}
theorem EvP.refl (h : P S r) : EvP P r S S := ⟨fun _ _ _ e => e, h, Nat.le_refl _⟩
theorem EvP.trans {S1 S2 S3 : Sto} (a : EvP P r S1 S2) (b : EvP P r S2 S3) : EvP P r S1 S3 := ⟨fun j o n e => b.kp j o n (a.kp j o n e), b.pn, Nat.le_trans a.ln b.ln⟩
theorem Gw.evp (L : PenL P) (g : Gw S T) (h : P S r) : EvP P r S T := ⟨fun j o _ e => g.kp j o e, L.up S T r h fun j o _ e => g.kp j o e, g.ln⟩
theorem EvP.app (L : PenL P) (h : P S r) (T : Sto) : EvP P r S (S ++ T) := (Gw.app T).evp L h
theorem EvP.app' (L : PenL P) (h : EvP P r S S') (T : Sto) : EvP P r S (S' ++ T) := h.trans (EvP.app L h.pn T)
theorem EvP.gw (L : PenL P) (h : EvP P r S S') (g : Gw S' T) : EvP P r S T := h.trans (g.evp L h.pn)
theorem EvP.put (L : PenL P) {l : Nat} {o : O} (h : EvP P r S S') (hr : r < S.length) (hl : S.length ≤ l) : EvP P r S (S'.set l o) := by
  refine ⟨fun j o' n e => ?_, L.up S' _ r h.pn fun j o' hj e => ?_, by rw [List.length_set]; exact h.ln⟩
  · have := (List.getElem?_eq_some_iff.mp e).1
    rw [List.getElem?_set_ne (by omega)]
    exact h.kp j o' n e
  · rw [List.getElem?_set_ne (by omega)]
    exact e
end
/-! ### the pen with the script -/
section
variable {bs : Bodies} {m : Nat} {S : Sto}
end
end Dv

namespace Dv
open PySem PySem.Spec PyProof.Rows L2 Df
/-! ### == [] -/
/-! ### enumerate -/
@[simp] theorem ev_enu {a : DenA} {lv : Lv} {ρ : Dv.Env} {S : Sto} : iEnu a lv ρ S = (a lv ρ S).bind enK := id rfl
@[simp] theorem enK_t {xs : List D} {S : Sto} : enK [.tup xs] S = .ok (.enuT xs) S := id rfl
theorem enK_l {S : Sto} {i : Nat} {w : Bool} {xs : List D} (hi : S[i]? = some (.lst w xs)) : enK [.ref i] S = .ok (.enu i w xs) S := by
  unfold enK enuS
  simp only [hi]
  rfl
/-! ### frames drawn -/
section
variable {bs : Bodies} {P : Sto → Nat → Prop} {iT iF m r : Nat} {S : Sto}
end
end Dv

namespace Pn
open PySem PySem.Spec PyProof.Rows L2 Dv
/-! sorted_ties -/
noncomputable def soR2 : DenS := (sRet (dCl tupleD (dCons (dSg (iVal (dVar 1)) (.nm 2) tYesD (dTup (dCons (dCl min1D (dCons (dVar 2) dNil)) (dCons (dCl max1D (dCons (dVar 2) dNil)) dNil))) [2]) dNil)))
noncomputable def soR1 : DenS := (sSeq (sIf (dNotT (dTru (dAb false (iVal (dVar 1)) (.nm 2) tYesD (dCallF 2 2 (dCons (dVar 0) (dCons (dVar 2) dNil))) [2]))) (sRet (dC .non)) sNil) soR2)
noncomputable def soF : DenS := (sSeq (sIf (dNotT (dTru (dIsi2 .lst .tup (dVar 1)))) (sRet (dC .non)) sNil) soR1)
theorem so_is : bodies[4]? = some (soF, 3) := rfl
/-! web_of -/
noncomputable def woR2 : DenS := (sRet (dVar 2))
noncomputable def woR1 : DenS := (sSeq (sIf (dNotT (dTru (dCallF 6 2 (dCons (dVar 0) (dCons (dVar 2) dNil))))) (sRz 0) sNil) woR2)
noncomputable def woF : DenS := (sSeq (sAsg (.nm 2) (dCallF 4 2 (dCons (dOp ixD (dVar 0) (dC (.int 0))) (dCons (dVar 1) dNil)))) woR1)
theorem wo_is : bodies[7]? = some (woF, 3) := rfl
/-! _law_ties -/
noncomputable def duB1R3 : DenS := (sExpr (dMt appendD (dVar 2) (dCons (dVar 4) dNil)))
noncomputable def duB1R2 : DenS := (sSeq (sIf (dOrT (dBl (dOp ninD (dVar 4) (dOp ixD (dVar 0) (dC (.int 1))))) (dBl (dOp inD (dVar 4) (dVar 2)))) (sRet (dC .non)) sNil) duB1R3)
noncomputable def duB1R1 : DenS := (sSeq (sAsg (.nm 4) (dTup (dCons (dCl min1D (dCons (dVar 3) dNil)) (dCons (dCl max1D (dCons (dVar 3) dNil)) dNil)))) duB1R2)
noncomputable def duB1 : DenS := (sSeq (sIf (dOrT (dNotT (dTru (dIsi .tup (dVar 3)))) (dOrT (dBl (dOp neD (dCl lenD (dCons (dVar 3) dNil)) (dC (.int 2)))) (dOrT (dNotT (dTru (dCallF 11 1 (dCons (dOp ixD (dVar 3) (dC (.int 0))) dNil)))) (dNotT (dTru (dCallF 11 1 (dCons (dOp ixD (dVar 3) (dC (.int 1))) dNil))))))) (sRet (dC .non)) sNil) duB1R1)
noncomputable def duR3 : DenS := (sRet (dVar 2))
noncomputable def duR2 : DenS := (sSeq (sFor (iVal (dVar 1)) (.nm 3) duB1) duR3)
noncomputable def duR1 : DenS := (sSeq (sAsg (.nm 2) (dLst dNil)) duR2)
noncomputable def duF : DenS := (sSeq (sIf (dNotT (dTru (dIsi2 .lst .tup (dVar 1)))) (sRet (dC .non)) sNil) duR1)
theorem du_is : bodies[12]? = some (duF, 5) := rfl
/-! _law_told -/
noncomputable def toR5 : DenS := (sRet (dTup (dCons (dOp ixD (dLst (dCons (dC (.str "other")) (dCons (dC (.str "refused")) dNil))) (dCl intD (dCons (dAndV (dIsx 1 (xq 0) xnm (dVar 3)) (dIsx 1 (fun _ => true) xnm (dVar 3))) dNil))) (dCons (dC .non) dNil))))
noncomputable def toR4 : DenS := (sSeq (sIf (dTru (dIsx 1 (isA xq [2, 3, 4, 5, 6, 7, 8, 9]) xnm (dVar 3))) (sRet (dTup (dCons (dC (.str "other")) (dCons (dC .non) dNil)))) sNil) toR5)
noncomputable def toR3 : DenS := (sSeq (sIf (dBl (dOp isND (dVar 3) (dC .non))) (sRet (dTup (dCons (dC (.str "made")) (dCons (dVar 4) dNil)))) sNil) toR4)
noncomputable def toR2 : DenS := (sSeq (sIf (dTru (dVar 2)) (sTryK 1 (xq 1) xnm 5 3 (sAsg (.nm 4) (dCallF 7 2 (dCons (dVar 0) (dCons (dVar 1) dNil))))) (sTryK 1 (xq 0) xnm 5 3 (sAsg (.nm 4) (dCallF 7 2 (dCons (dVar 0) (dCons (dVar 1) dNil)))))) toR3)
noncomputable def toR1 : DenS := (sSeq (sAsg (.nm 4) (dC .non)) toR2)
noncomputable def toF : DenS := (sSeq (sAsg (.nm 3) (dC .non)) toR1)
theorem to_is : bodies[13]? = some (toF, 6) := rfl
/-! _law_deep -/
noncomputable def deB1 : DenS := (sAsg (.nm 1) (dOp ixD (dLst (dCons (dTup (dCons (dVar 1) dNil)) (dCons (dLst (dCons (dVar 1) dNil)) (dCons (dTup (dCons (dC (.int 0)) (dCons (dVar 1) dNil))) dNil)))) (dCallF 9 2 (dCons (dVar 0) (dCons (dC (.int 3)) dNil)))))
noncomputable def deR2 : DenS := (sRet (dVar 1))
noncomputable def deR1 : DenS := (sSeq (sFor (iRange1 (dCons (dC (.int 25)) dNil)) (.nm 2) deB1) deR2)
noncomputable def deF : DenS := (sSeq (sAsg (.nm 1) (dOp ixD (dLst (dCons (dC (.int 0)) (dCons (dC .non) (dCons (dTup (dCons (dC (.int 0)) (dCons (dC (.int 1)) dNil))) (dCons (dC (.bl true)) dNil))))) (dCallF 9 2 (dCons (dVar 0) (dCons (dC (.int 4)) dNil))))) deR1)
theorem de_is : bodies[14]? = some (deF, 3) := rfl
/-! _law_spoilt -/
noncomputable def spR14 : DenS := (sRet (dVar 2))
noncomputable def spR13 : DenS := (sSeq (sIf (dBl (dOp eqD (dVar 4) (dC (.int 6)))) (sRet (dOp addD (dUn revD (dVar 2)) (dSl (dOp addD (dOp ixD (dVar 1) (dC (.int 1))) (dTup (dCons (dTup (dCons (dC (.int 0)) (dCons (dC (.int 1)) dNil))) dNil))) none (some (dC (.int 1)))))) sNil) spR14)
noncomputable def spR12 : DenS := (sSeq (sIf (dBl (dOp eqD (dVar 4) (dC (.int 5)))) (sRet (dOp ixD (dLst (dCons (dC .non) (dCons (dC (.bl true)) (dCons (dC (.int 0)) (dCons (dC (.str "web")) (dCons dDk0 (dCons (dDn1 (dTup (dCons (dC (.int 0)) (dCons (dC (.int 1)) dNil))) (dC (.bl true))) (dCons (dCallF 14 1 (dCons (dVar 0) dNil)) (dCons (dTup (dCons (dTup dNil) dNil)) dNil))))))))) (dCallF 9 2 (dCons (dVar 0) (dCons (dC (.int 8)) dNil))))) sNil) spR13)
noncomputable def spR11 : DenS := (sSeq (sIf (dBl (dOp eqD (dVar 4) (dC (.int 4)))) (sRet (dOp addD (dCl tupleD (dCons (dLc (iVal (dSl (dVar 2) none (some (dVar 5)))) (.nm 12) tYesD (dUn revD (dVar 12)) [12]) dNil)) (dSl (dVar 2) (some (dVar 5)) none))) sNil) spR12)
noncomputable def spR10 : DenS := (sSeq (sIf (dBl (dOp eqD (dVar 4) (dC (.int 3)))) (sRet (dOp addD (dSl (dVar 2) (some (dVar 5)) none) (dSl (dVar 2) none (some (dVar 5))))) sNil) spR11)
noncomputable def spR9 : DenS := (sSeq (sIf (dBl (dOp eqD (dVar 4) (dC (.int 2)))) (sSeq (sAsg (.nm 11) (dCallF 9 2 (dCons (dVar 0) (dCons (dOp addD (dCl lenD (dCons (dVar 2) dNil)) (dC (.int 1))) dNil)))) (sSeq (sAsg (.nm 12) (dOp ixD (dLst (dCons (dTup (dCons (dVar 6) (dCons (dVar 7) dNil))) (dCons (dTup (dCons (dVar 7) (dCons (dVar 6) dNil))) dNil))) (dCallF 9 2 (dCons (dVar 0) (dCons (dC (.int 2)) dNil))))) (sRet (dOp addD (dOp addD (dSl (dVar 2) none (some (dVar 11))) (dTup (dCons (dVar 12) dNil))) (dSl (dVar 2) (some (dVar 11)) none))))) sNil) spR10)
noncomputable def spR8 : DenS := (sSeq (sIf (dBl (dOp eqD (dVar 4) (dC (.int 1)))) (sRet (dOp addD (dOp addD (dSl (dVar 2) none (some (dVar 5))) (dTup (dCons (dVar 10) dNil))) (dSl (dVar 2) (some (dVar 5)) none))) sNil) spR9)
noncomputable def spR7 : DenS := (sSeq (sIf (dBl (dOp eqD (dVar 4) (dC (.int 0)))) (sRet (dOp addD (dOp addD (dSl (dVar 2) none (some (dVar 5))) (dTup (dCons (dVar 10) dNil))) (dSl (dVar 2) (some (dOp addD (dVar 5) (dC (.int 1)))) none))) sNil) spR8)
noncomputable def spR6 : DenS := (sSeq (sAsg (.nm 10) (dOp ixD (dOp addD (dVar 9) (dLst (dCons (dC .non) (dCons (dC (.str "01")) (dCons (dTup dNil) (dCons (dC (.int 0)) (dCons dDk0 (dCons (dTup (dCons (dOp gtD (dVar 6) (dC (.int 0))) (dCons (dOp gtD (dVar 7) (dC (.int 0))) dNil))) (dCons (dVar 8) dNil))))))))) (dCallF 9 2 (dCons (dVar 0) (dCons (dC (.int 14)) dNil))))) spR7)
noncomputable def spR5 : DenS := (sSeq (sAsg (.nm 9) (dLst (dCons (dTup (dCons (dVar 7) (dCons (dVar 6) dNil))) (dCons (dTup (dCons (dVar 6) (dCons (dVar 8) dNil))) (dCons (dTup (dCons (dVar 8) (dCons (dVar 7) dNil))) (dCons (dLst (dCons (dVar 6) (dCons (dVar 7) dNil))) (dCons (dTup (dCons (dVar 6) dNil)) (dCons (dTup (dCons (dVar 6) (dCons (dVar 7) (dCons (dVar 7) dNil)))) (dCons (dTup (dCons (dVar 7) (dCons (dVar 7) dNil))) dNil))))))))) spR6)
noncomputable def spR4 : DenS := (sSeq (sAsg (.nm 8) (dOp ixD (dLst (dCons (dVar 3) (dCons (dUn negD (dC (.int 1))) (dCons (dC (.bl true)) (dCons (dC (.bl false)) (dCons (dC .non) (dCons (dC (.str "1")) (dCons (dOp powD (dC (.int 10)) (dC (.int 29))) (dCons (dCallF 14 1 (dCons (dVar 0) dNil)) (dCons (dC (.int 0)) (dCons (dOp subD (dVar 3) (dC (.int 1))) (dCons dDk0 (dCons (dLst (dCons (dVar 6) dNil)) dNil))))))))))))) (dCallF 9 2 (dCons (dVar 0) (dCons (dC (.int 12)) dNil))))) spR5)
noncomputable def spR3 : DenS := (sSeq (sAsg (.tp [6, 7]) (dOp ixD (dOp addD (dVar 2) (dTup (dCons (dTup (dCons (dC (.int 0)) (dCons (dC (.int 1)) dNil))) dNil))) (dVar 5))) spR4)
noncomputable def spR2 : DenS := (sSeq (sAsg (.nm 5) (dCallF 9 2 (dCons (dVar 0) (dCons (dOp addD (dCl lenD (dCons (dVar 2) dNil)) (dC (.int 1))) dNil)))) spR3)
noncomputable def spR1 : DenS := (sSeq (sAsg (.nm 4) (dCallF 9 2 (dCons (dVar 0) (dCons (dC (.int 10)) dNil)))) spR2)
noncomputable def spF : DenS := (sSeq (sAsg (.nm 3) (dOp ixD (dVar 1) (dC (.int 0)))) spR1)
theorem sp_is : bodies[15]? = some (spF, 13) := rfl
/-! _law_right -/
noncomputable def riR11 : DenS := (sRet (dOp isND (dCallF 6 2 (dCons (dVar 1) (dCons (dVar 8) dNil))) (dC (.bl true))))
noncomputable def riR10 : DenS := (sSeq (sIf (dOrT (dBl (dOp neD (dVar 7) (dC (.str "made")))) (dOrT (dNotT (dTru (dIsi .tup (dVar 8)))) (dBl (dOp neD (dVar 8) (dCl tupleD (dCons (dCl sortedD (dCons (dVar 3) dNil)) dNil)))))) (sRet (dC (.bl false))) sNil) riR11)
noncomputable def riR9 : DenS := (sSeq (sIf (dTru (dIsi .lst (dVar 2))) (sExpr (dMt appendD (dVar 2) (dCons (dTup (dCons (dC (.int 0)) (dCons (dC (.int 0)) dNil))) dNil))) sNil) riR10)
noncomputable def riR8 : DenS := (sSeq (sIf (dBl (dOp isND (dVar 3) (dC .non))) (sRet (dOp eqD (dVar 7) (dC (.str "refused")))) sNil) riR9)
noncomputable def riR7 : DenS := (sSeq (sIf (dBl (dOp neD (dCl reprF (dCons (dLst (dCons (dVar 1) (dCons (dVar 2) dNil))) dNil)) (dVar 4))) (sRet (dC (.bl false))) sNil) riR8)
noncomputable def riR6 : DenS := (sSeq (sAsg (.tp [7, 8]) (dCallF 13 3 (dCons (dVar 1) (dCons (dVar 2) (dCons (dOp eqD (dCallF 9 2 (dCons (dVar 0) (dCons (dC (.int 2)) dNil))) (dC (.int 0))) dNil))))) riR7)
noncomputable def riR5 : DenS := (sSeq (sIf (dOrT (dNotT (dTru (dIsi .bl (dVar 5)))) (dBl (dOp neD (dVar 5) (dVar 6)))) (sRet (dC (.bl false))) sNil) riR6)
noncomputable def riR4 : DenS := (sSeq (sAsg (.nm 6) (dAndV (dIsi .tup (dVar 2)) (dAndV (dOp isnD (dVar 3) (dC .non)) (dOp eqD (dCl listD (dCons (dVar 2) dNil)) (dCl sortedD (dCons (dVar 3) dNil)))))) riR5)
noncomputable def riR3 : DenS := (sSeq (sAsg (.nm 5) (dCallF 6 2 (dCons (dVar 1) (dCons (dVar 2) dNil)))) riR4)
noncomputable def riR2 : DenS := (sSeq (sAsg (.nm 4) (dCl reprF (dCons (dLst (dCons (dVar 1) (dCons (dVar 2) dNil))) dNil))) riR3)
noncomputable def riR1 : DenS := (sSeq (sAsg (.nm 3) (dCallF 12 2 (dCons (dVar 1) (dCons (dVar 2) dNil)))) riR2)
noncomputable def riF : DenS := (sSeq (sIf (dAndT (dTru (dIsi .tup (dVar 2))) (dBl (dOp eqD (dCallF 9 2 (dCons (dVar 0) (dCons (dC (.int 2)) dNil))) (dC (.int 0))))) (sAsg (.nm 2) (dCl listD (dCons (dVar 2) dNil))) sNil) riR1)
theorem ri_is : bodies[16]? = some (riF, 9) := rfl
/-! law -/
noncomputable def lB1B1 : DenS := (sIf (dOrT (dNotT (dTru (dCallF 16 3 (dCons (dVar 2) (dCons (dVar 3) (dCons (dCallF 15 3 (dCons (dVar 2) (dCons (dVar 3) (dCons (dVar 4) dNil)))) dNil)))))) (dNotT (dTru (dCallF 16 3 (dCons (dVar 2) (dCons (dVar 3) (dCons (dVar 4) dNil))))))) (sRet (dC (.bl false))) sNil)
noncomputable def lB1R3 : DenS := (sFor (iRange1 (dCons (dC (.int 4)) dNil)) (.nm 5) lB1B1)
noncomputable def lB1R2 : DenS := (sSeq (sAsg (.nm 4) (dCl tupleD (dCons (dLc (iVal (dOp ixD (dVar 3) (dC (.int 1)))) (.nm 6) (dBl (dOp gtD (dCallF 9 2 (dCons (dVar 2) (dCons (dC (.int 3)) dNil))) (dC (.int 0)))) (dVar 6) [6]) dNil))) lB1R3)
noncomputable def lB1R1 : DenS := (sSeq (sAsg (.nm 3) (dCallF 10 1 (dCons (dVar 2) dNil))) lB1R2)
noncomputable def lB1 : DenS := (sSeq (sAsg (.nm 2) (dCallF 8 2 (dCons (dVar 0) (dCons (dVar 1) dNil)))) lB1R1)
noncomputable def lR1 : DenS := (sRet (dC (.bl true)))
noncomputable def lF : DenS := (sSeq (sFor (iRange1 (dCons (dC (.int 4)) dNil)) (.nm 1) lB1) lR1)
theorem l_is : bodies[17]? = some (lF, 7) := rfl
theorem hT : bodies[9]? = some (takeF, 4) := rfl
theorem hW : bodies[0]? = some (wholeF, 1) := rfl
theorem hP : bodies[1]? = some (placeF 0, 2) := rfl
theorem hQ : bodies[2]? = some (pairF 1, 2) := rfl
theorem hR : bodies[3]? = some (risingF, 2) := rfl
theorem hK : bodies[5]? = some (isTieF 2, 2) := rfl
theorem hB : bodies[6]? = some (isWebF 5 3, 3) := rfl
theorem hN : bodies[8]? = some (penF, 4) := rfl
theorem hG : bodies[10]? = some (frameF 9, 7) := rfl
theorem hL : bodies[11]? = some (wholeF, 1) := rfl
section
variable {m : Nat} {S T : Sto}
def normD (y : D) : D := .tup [.int (if (keyD y).2 < (keyD y).1 then (keyD y).2 else (keyD y).1), .int (if (keyD y).1 < (keyD y).2 then (keyD y).2 else (keyD y).1)]
theorem norm_all {gs : List D} : AllPr (gs.map normD) := fun y hy => by
  obtain ⟨x, _, rfl⟩ := List.mem_map.mp hy
  rfl
theorem norm_tie {n : Int} {y : D} (h : isPa n y = true) : isTie n (normD y) = true := by
  match y, h with
  | .tup [.int i, .int j], h =>
    have h : decide (0 ≤ i ∧ i < n ∧ 0 ≤ j ∧ j < n ∧ i ≠ j) = true := h
    have h := of_decide_eq_true h
    show decide (0 ≤ (if j < i then j else i) ∧ (if j < i then j else i) < (if i < j then j else i) ∧ (if i < j then j else i) < n) = true
    refine decide_eq_true ?_
    by_cases c : i < j
    · rw [if_neg (by omega), if_pos c]
      omega
    · rw [if_pos (by omega), if_neg c]
      omega
/-- the things of a list or a tuple -/
def seqL (d : D) (S : Sto) : Option (List D) := match d with
  | .tup xs => some xs
  | .ref i => match S[i]? with
    | some (.lst _ xs) => some xs
    | _ => none
  | _ => none
/-- it is there -/
def Sure (S : Sto) (d : D) : Prop := ∀ i, d = .ref i → i < S.length
theorem risS : ∀ {l : List D}, risB (l.map keyD) = true → Str_ l
  | [], _ => List.Pairwise.nil
  | [_], _ => List.pairwise_singleton _ _
  | x :: y :: r, h => by
    have h : (ltP (keyD x) (keyD y) && risB ((y :: r).map keyD)) = true := h
    rw [Bool.and_eq_true] at h
    have ih := risS h.2
    refine List.pairwise_cons.mpr ⟨fun z hz => ?_, ih⟩
    rcases List.mem_cons.mp hz with rfl | hz
    · exact h.1
    · have a := ltP_iff.mp h.1
      have b := ltP_iff.mp ((List.pairwise_cons.mp ih).1 z hz)
      exact ltP_iff.mpr (by omega)
end
end Pn

namespace Dv
open PySem PySem.Spec PyProof.Rows L2 Df
/-! ### texts of lists and dicts within one another -/
def TQ (S : Sto) (f k w : Nat) (d : D) : Prop := ∃ p, toR S f d = some p ∧ p.showable = true ∧ p.leavesShort 64 = true ∧ p.weight ≤ w ∧ p.depth ≤ k
section
variable {S : Sto} {c b : Bool} {f k w n i : Nat} {d : D} {ds : List D}
theorem Tng.q (h : Tng S c f k w d) : TQ S f k w d := by
  obtain ⟨p, e, a1, a2, a3, a4, _⟩ := h
  exact ⟨p, e, a1, a2, a3, a4⟩
theorem TQ.up {f' k' w' : Nat} (h : TQ S f k w d) (h1 : f ≤ f') (h2 : k ≤ k') (h3 : w ≤ w') : TQ S f' k' w' d := by
  obtain ⟨p, e, a, b, x, y⟩ := h
  exact ⟨p, toR_le h1 e, a, b, by omega, by omega⟩
theorem TQ.kp {T : Sto} (h : TQ S f k w d) (g : Kps S T) : TQ T f k w d := by
  obtain ⟨p, e, z⟩ := h
  exact ⟨p, toR_kp g e, z⟩
theorem TQ.gw {T : Sto} (h : TQ S f k w d) (g : Gw S T) : TQ T f k w d := h.kp g.kps
theorem tqs : ∀ {ds : List D}, (∀ d ∈ ds, TQ S f k w d) → ∃ ps, toRs S (f + ds.length) ds = some ps ∧ PyData.showableAll ps = true ∧ PyData.leavesShortAll 64 ps = true ∧ PyData.weightAll ps ≤ ds.length * (w + 1) ∧ PyData.depthAll ps ≤ k
  | [], _ => ⟨[], by cases f <;> rfl, by simp [PyData.showableAll], by simp [PyData.leavesShortAll], by simp [PyData.weightAll], by simp [PyData.depthAll]⟩
  | d :: ds, h => by
    obtain ⟨p, e, a1, a2, a3, a4⟩ := h d List.mem_cons_self
    obtain ⟨ps, es, b1, b2, b3, b4⟩ := tqs (ds := ds) fun x hx => h x (List.mem_cons_of_mem _ hx)
    refine ⟨p :: ps, ?_, ?_, ?_, ?_, ?_⟩
    · rw [List.length_cons, show f + (ds.length + 1) = (f + ds.length) + 1 from by omega]
      unfold toRs
      rw [toR_le (show f ≤ f + ds.length by omega) e, es]
    · simp only [PyData.showableAll, a1, b1, Bool.and_self]
    · simp only [PyData.leavesShortAll, a2, b2, Bool.and_self]
    · simp only [PyData.weightAll, List.length_cons]
      rw [Nat.add_mul]; omega
    · simp only [PyData.depthAll]; omega
theorem TQ.tup (h : ∀ d ∈ ds, TQ S f k w d) (hn : ds.length ≤ n) : TQ S (f + n + 1) (k + 1) (n * (w + 1)) (.tup ds) := by
  obtain ⟨ps, e, b1, b2, b3, b4⟩ := tqs h
  refine ⟨.tuple ps, ?_, ?_, ?_, ?_, ?_⟩
  · unfold toR
    rw [toRs_le (show f + ds.length ≤ f + n by omega) e]; rfl
  · simpa [PyData.showable] using b1
  · simpa [PyData.leavesShort] using b2
  · simp only [PyData.weight]
    exact Nat.le_trans b3 (Nat.mul_le_mul_right _ hn)
  · simp only [PyData.depth]; omega
theorem TQ.lst (hi : S[i]? = some (.lst b ds)) (h : ∀ d ∈ ds, TQ S f k w d) (hn : ds.length ≤ n) : TQ S (f + n + 1) (k + 1) (n * (w + 1)) (.ref i) := by
  obtain ⟨ps, e, b1, b2, b3, b4⟩ := tqs h
  refine ⟨.list ps, ?_, ?_, ?_, ?_, ?_⟩
  · unfold toR
    rw [hi]
    simp only
    rw [toRs_le (show f + ds.length ≤ f + n by omega) e]; rfl
  · simpa [PyData.showable] using b1
  · simpa [PyData.leavesShort] using b2
  · simp only [PyData.weight]
    exact Nat.le_trans b3 (Nat.mul_le_mul_right _ hn)
  · simp only [PyData.depth]; omega
theorem repE_is {T : Sto} {p : PyData} (e : toR T 1000 d = some p) (h : fitQ p = true) : reprE [d] T = .ok (.str p.shown) T := by
  show (match toR T 1000 d with
    | some p => if fitQ p = true then R.ok (D.str p.shown) T else R.no
    | none => R.no) = _
  rw [e]
  exact if_pos h
theorem fitQ_of {p : PyData} (a : p.showable = true) (b : p.leavesShort 64 = true) (x : p.weight ≤ 100000) (y : p.depth ≤ 60) : fitQ p = true := by
  unfold fitQ
  rw [a, b, decide_eq_true x, decide_eq_true y]
  rfl
theorem TQ.repr (h : TQ S f k w d) (h1 : f ≤ 1000) (h2 : k ≤ 60) (h3 : w ≤ 100000) : ∃ x : Str, ∀ T, Gw S T → reprE [d] T = .ok (.str x) T := by
  obtain ⟨p, e, a, b, x, y⟩ := h
  exact ⟨p.shown, fun T g => repE_is (toR_kp g.kps (toR_le h1 e)) (fitQ_of a b (by omega) (by omega))⟩
end
end Dv

namespace Dv
open PySem PySem.Spec PyProof.Rows L2 Df
section
variable {S : Sto} {t x y : D} {ws : List D}
/-! ### in, of pairs of any ints -/
theorem pr_get (h : isPr y = true) : ∃ i j : Int, y = .tup [.int i, .int j] := by
  match y, h with
  | .tup [.int i, .int j], _ => exact ⟨i, j, rfl⟩
theorem eqv_pq (hx : isPr x = true) (hy : isPr y = true) : PyData.eqv (pP x) (pP y) = decide (keyD x = keyD y) := by
  obtain ⟨i, j, rfl⟩ := pr_get hx
  obtain ⟨k, l, rfl⟩ := pr_get hy
  simp [pP, PyData.eqv, PyData.eqvAll, keyD]
  by_cases h1 : i = k <;> by_cases h2 : j = l <;> simp [h1, h2]
theorem any_pq (ht : isPr t = true) : ∀ {ws : List D}, AllPr ws → ((ws.map pP).any fun z => PyData.eqv z (pP t)) = inW t ws
  | [], _ => rfl
  | y :: ws, h => by
    simp only [List.map_cons, List.any_cons, inW]
    rw [eqv_pq (h y List.mem_cons_self) ht]
    have := any_pq ht fun x hx => h x (List.mem_cons_of_mem _ hx)
    unfold inW at this
    rw [this]
theorem shp_pq (h : isPr y = true) : SeqAt.shaped (pP y) = true := by
  obtain ⟨i, j, rfl⟩ := pr_get h
  simp [pP, SeqAt.shaped, PyData.canLay0, PyData.canLayAll0, PyData.depth, PyData.depthAll]
theorem inB_pq (ht : isPr t = true) (hw : AllPr ws) (hl : ws.length ≤ 900) : inB t (.tup ws) S = some (inW t ws) := by
  have e1 : toP S 1000 t = some (pP t) := toP_pr ht (by omega)
  have e2 : toP S 1000 (.tup ws) = some (.tuple (ws.map pP)) := by
    show (toPs S 999 ws).map PyData.tuple = _
    rw [toPs_pr hw (by omega)]
    rfl
  have a := lay_pP ws
  have b := dep_pP ws
  have s2 : SeqAt.shaped (.tuple (ws.map pP)) = true := by
    simp [SeqAt.shaped, PyData.canLay0, PyData.depth, a]; omega
  have ed : dkD (.tup ws) S = none := rfl
  unfold inB
  rw [ed, e1, e2]
  simp only
  rw [if_pos ⟨shp_pq ht, s2⟩, any_pq ht hw]
theorem nin_pq (ht : isPr t = true) (hw : AllPr ws) (hl : ws.length ≤ 900) : ninD t (.tup ws) S = .ok (.bl (!inW t ws)) S := by
  unfold ninD; rw [inB_pq ht hw hl]
theorem in_pql {l : Nat} {b : Bool} (h : S[l]? = some (.lst b ws)) (ht : isPr t = true) (hw : AllPr ws) (hl : ws.length ≤ 900) : inD t (.ref l) S = .ok (.bl (inW t ws)) S := by
  have e1 : toP S 1000 t = some (pP t) := toP_pr ht (by omega)
  have e2 : toP S 1000 (.ref l) = some (.list (ws.map pP)) := by
    show (match S[l]? with | some (.lst _ ds) => (toPs S 999 ds).map PyData.list | _ => none) = _
    rw [h]
    show (toPs S 999 ws).map PyData.list = _
    rw [toPs_pr hw (by omega)]
    rfl
  have a := lay_pP ws
  have b := dep_pP ws
  have s2 : SeqAt.shaped (.list (ws.map pP)) = true := by
    simp [SeqAt.shaped, PyData.canLay0, PyData.depth, a]; omega
  have ed : dkD (.ref l) S = none := by simp only [dkD, h]
  unfold inD inB
  rw [ed, e1, e2]
  simp only
  rw [if_pos ⟨shp_pq ht, s2⟩, any_pq ht hw]
/-! ### == of lists of pairs -/
theorem eqvAll_pq : ∀ {gs hs : List D}, AllPr gs → AllPr hs → PyData.eqvAll (gs.map pP) (hs.map pP) = decide (gs.map keyD = hs.map keyD)
  | [], [], _, _ => by simp [PyData.eqvAll]
  | [], _ :: _, _, _ => by simp [PyData.eqvAll]
  | _ :: _, [], _, _ => by simp [PyData.eqvAll]
  | g :: gs, h :: hs, hg, hh => by
    have e := eqv_pq (hg g List.mem_cons_self) (hh h List.mem_cons_self)
    have ih := eqvAll_pq (gs := gs) (hs := hs) (fun x hx => hg x (List.mem_cons_of_mem _ hx)) fun x hx => hh x (List.mem_cons_of_mem _ hx)
    simp only [List.map_cons, PyData.eqvAll, e, ih]
    by_cases c : keyD g = keyD h
    · by_cases d : gs.map keyD = hs.map keyD
      · simp [c, d]
      · simp [d]
    · simp [c]
theorem key_inj : ∀ {gs hs : List D}, AllPr gs → AllPr hs → gs.map keyD = hs.map keyD → gs = hs
  | [], [], _, _, _ => rfl
  | [], _ :: _, _, _, e => nomatch e
  | _ :: _, [], _, _, e => nomatch e
  | g :: gs, h :: hs, hg, hh, e => by
    rw [List.map_cons, List.map_cons] at e
    obtain ⟨e1, e2⟩ := List.cons.inj e
    rw [key_inj (fun x hx => hg x (List.mem_cons_of_mem _ hx)) (fun x hx => hh x (List.mem_cons_of_mem _ hx)) e2]
    obtain ⟨i, j, rfl⟩ := pr_get (hg g List.mem_cons_self)
    obtain ⟨k, l, rfl⟩ := pr_get (hh h List.mem_cons_self)
    have c' : (i, j) = (k, l) := e1
    cases c'
    rfl
theorem eq_lsts {i j : Nat} {gs hs : List D} {w u : Bool} (hg : AllPr gs) (hh : AllPr hs) (lg : gs.length ≤ 100) (lh : hs.length ≤ 100) (hi : S[i]? = some (.lst w gs)) (hj : S[j]? = some (.lst u hs)) : eqD (.ref i) (.ref j) S = .ok (.bl (decide (gs.map keyD = hs.map keyD))) S := by
  have e : ∀ {k : Nat} {v : Bool} {gs : List D}, AllPr gs → gs.length ≤ 100 → S[k]? = some (.lst v gs) → toP S 1000 (.ref k) = some (.list (gs.map pP)) := fun {k v gs} h hl hk => by
    show (match S[k]? with | some (.lst _ ds) => (toPs S 999 ds).map PyData.list | _ => none) = _
    rw [hk]
    show (toPs S 999 gs).map PyData.list = _
    rw [toPs_pr h (by omega)]
    rfl
  have sh : ∀ gs : List D, SeqAt.shaped (.list (gs.map pP)) = true := fun gs => by
    unfold SeqAt.shaped
    have := dep_pP gs
    simp [PyData.canLay0, lay_pP, PyData.depth]
    omega
  have ev : PyData.eqv (.list (gs.map pP)) (.list (hs.map pP)) = decide (gs.map keyD = hs.map keyD) := by
    simp only [PyData.eqv, eqvAll_pq hg hh]
  unfold eqD eqB eqS
  simp only [e hg lg hi, e hh lh hj, sh, ev, and_self, if_true]
theorem ne_tups {gs : List D} (hg : AllPr gs) (lg : gs.length ≤ 100) : neD (.tup gs) (.tup gs) S = .ok (.bl false) S := by
  have e : toP S 1000 (.tup gs) = some (.tuple (gs.map pP)) := by
    show (toPs S 999 gs).map PyData.tuple = _
    rw [toPs_pr hg (by omega)]
    rfl
  have sh : SeqAt.shaped (.tuple (gs.map pP)) = true := by
    unfold SeqAt.shaped
    have := dep_pP gs
    simp [PyData.canLay0, lay_pP, PyData.depth]
    omega
  have ev : PyData.eqv (.tuple (gs.map pP)) (.tuple (gs.map pP)) = true := by
    simp only [PyData.eqv, eqv_pP]
  unfold neD eqB eqS
  simp only [e, sh, ev, and_self, if_true]
  rfl
end
/-! ### things that are shown, whatever is done beside them -/
def FQ (r : Nat) (S : Sto) (f k w : Nat) (d : D) : Prop := ∃ p, (∀ T, Ev r S T → ∀ g, f ≤ g → toF T g d = some p) ∧ p.showable = true ∧ p.leavesShort 64 = true ∧ p.weight ≤ w ∧ p.depth ≤ k
def FQs (r : Nat) (S : Sto) (f k w : Nat) (ds : List D) : Prop := ∃ ps, (∀ T, Ev r S T → ∀ g, f ≤ g → toFs T g ds = some ps) ∧ PyData.showableAll ps = true ∧ PyData.leavesShortAll 64 ps = true ∧ PyData.weightAll ps ≤ w ∧ PyData.depthAll ps ≤ k
section
variable {r f k w n : Nat} {S T : Sto} {d : D} {ds : List D}
theorem FQ.ev (h : FQ r S f k w d) (e : Ev r S T) : FQ r T f k w d := by
  obtain ⟨p, a, b⟩ := h
  exact ⟨p, fun U eU => a U (e.trans eU), b⟩
theorem FQ.up {f' k' w' : Nat} (h : FQ r S f k w d) (h1 : f ≤ f') (h2 : k ≤ k') (h3 : w ≤ w') : FQ r S f' k' w' d := by
  obtain ⟨p, a, b, c, x, y⟩ := h
  exact ⟨p, fun U eU g hg => a U eU g (by omega), b, c, by omega, by omega⟩
theorem FQs.up {f' k' w' : Nat} (h : FQs r S f k w ds) (h1 : f ≤ f') (h2 : k ≤ k') (h3 : w ≤ w') : FQs r S f' k' w' ds := by
  obtain ⟨p, a, b, c, x, y⟩ := h
  exact ⟨p, fun U eU g hg => a U eU g (by omega), b, c, by omega, by omega⟩
theorem FQ.of {c : Bool} (h : Tng S c 1 0 w d) (e : toF S 1 d = toR S 1 d) (q : ∀ T g, toF T (g + 1) d = toF S 1 d) : FQ r S 1 0 w d := by
  obtain ⟨p, e0, a1, a2, a3, a4, _⟩ := h
  exact ⟨p, fun U _ g hg => by
    obtain ⟨g, rfl⟩ : ∃ q, g = q + 1 := ⟨g - 1, by omega⟩
    rw [q, e, e0], a1, a2, a3, a4⟩
theorem FQ.non : FQ r S 1 0 0 .non := FQ.of (Tng.non (S := S) (c := false)) rfl fun _ _ => rfl
theorem FQ.bl {b : Bool} : FQ r S 1 0 0 (.bl b) := FQ.of (Tng.bl (S := S) (c := false)) rfl fun _ _ => rfl
theorem FQ.str {x : Str} (h : x.cps.size ≤ 8) (h2 : (x.cps.toList.all fun c => decide (c < 16 ^ 8)) = true) : FQ r S 1 0 8 (.str x) := FQ.of (Tng.str (S := S) (c := false) h h2) rfl fun _ _ => rfl
theorem FQ.small {i : Int} (h : i.natAbs < 16) : FQ r S 1 0 5 (.int i) := FQ.of (Tng.small (S := S) (c := false) h) rfl fun _ _ => rfl
theorem FQ.int {i : Int} (h : i.natAbs < 10 ^ 30) : FQ r S 1 0 100 (.int i) := FQ.of (Tng.int (S := S) (c := false) h) rfl fun _ _ => rfl
theorem FQs.nil : FQs r S 0 0 0 [] := ⟨[], fun U _ g _ => by cases g <;> rfl, by simp [PyData.showableAll], by simp [PyData.leavesShortAll], by simp [PyData.weightAll], by simp [PyData.depthAll]⟩
theorem FQs.cons {w1 w2 : Nat} (h1 : FQ r S f k w1 d) (h2 : FQs r S f k w2 ds) : FQs r S (f + 1) k (w1 + w2 + 1) (d :: ds) := by
  obtain ⟨p, e, a1, a2, a3, a4⟩ := h1
  obtain ⟨ps, es, b1, b2, b3, b4⟩ := h2
  refine ⟨p :: ps, fun U eU g hg => ?_, ?_, ?_, ?_, ?_⟩
  · obtain ⟨g, rfl⟩ : ∃ q, g = q + 1 := ⟨g - 1, by omega⟩
    unfold toFs
    rw [e U eU g (by omega), es U eU g (by omega)]
  · simp only [PyData.showableAll, a1, b1, Bool.and_self]
  · simp only [PyData.leavesShortAll, a2, b2, Bool.and_self]
  · simp only [PyData.weightAll]; omega
  · simp only [PyData.depthAll]; omega
theorem FQs.all : ∀ {ds : List D} {n : Nat}, (∀ d ∈ ds, FQ r S f k w d) → ds.length ≤ n → FQs r S (f + n) k (n * (w + 1)) ds
  | [], n, _, _ => FQs.nil.up (by omega) (by omega) (by omega)
  | d :: ds, n, h, hn => by
    rw [List.length_cons] at hn
    obtain ⟨n, rfl⟩ : ∃ q, n = q + 1 := ⟨n - 1, by omega⟩
    exact (FQs.cons ((h d List.mem_cons_self).up (by omega : f ≤ f + n) (Nat.le_refl _) (Nat.le_refl _)) (FQs.all (n := n) (fun x hx => h x (List.mem_cons_of_mem _ hx)) (by omega))).up (by omega) (by omega) (by rw [Nat.add_mul]; omega)
theorem FQs.tup (h : FQs r S f k w ds) : FQ r S (f + 1) (k + 1) w (.tup ds) := by
  obtain ⟨ps, e, b1, b2, b3, b4⟩ := h
  refine ⟨.tuple ps, fun U eU g hg => ?_, ?_, ?_, ?_, ?_⟩
  · obtain ⟨g, rfl⟩ : ∃ q, g = q + 1 := ⟨g - 1, by omega⟩
    unfold toF
    rw [e U eU g (by omega)]; rfl
  · simpa [PyData.showable] using b1
  · simpa [PyData.leavesShort] using b2
  · simpa [PyData.weight] using b3
  · simp only [PyData.depth]; omega
theorem FQs.lst {i : Nat} {b : Bool} (ir : i ≠ r) (hi : S[i]? = some (.lst b ds)) (h : FQs r S f k w ds) : FQ r S (f + 1) (k + 1) w (.ref i) := by
  obtain ⟨ps, e, b1, b2, b3, b4⟩ := h
  refine ⟨.list ps, fun U eU g hg => ?_, ?_, ?_, ?_, ?_⟩
  · obtain ⟨g, rfl⟩ : ∃ q, g = q + 1 := ⟨g - 1, by omega⟩
    unfold toF
    rw [eU.kp i _ ir hi]
    simp only
    rw [e U eU g (by omega)]; rfl
  · simpa [PyData.showable] using b1
  · simpa [PyData.leavesShort] using b2
  · simpa [PyData.weight] using b3
  · simp only [PyData.depth]; omega
theorem FQ.repr (h : FQ r S f k w d) (h1 : f ≤ 1000) (h2 : k ≤ 60) (h3 : w ≤ 100000) : ∃ x : Str, ∀ T, Ev r S T → reprF [d] T = .ok (.str x) T := by
  obtain ⟨p, e, a, b, x, y⟩ := h
  refine ⟨p.shown, fun T eT => ?_⟩
  show (match toF T 1000 d with
    | some p => if fitQ p = true then R.ok (D.str p.shown) T else R.no
    | none => R.no) = _
  rw [e T eT 1000 h1]
  exact if_pos (fitQ_of a b (by omega) (by omega))
theorem FQ.dk0 {i : Nat} (ir : i ≠ r) (hi : S[i]? = some (.dk [])) : FQ r S 1 1 2 (.ref i) := by
  refine ⟨.dict [], fun U eU g hg => ?_, by simp [PyData.showable, PyData.showableKv], by simp [PyData.leavesShort, PyData.leavesShortKv], by simp [PyData.weight, PyData.weightKv], by simp [PyData.depth, PyData.depthKv]⟩
  obtain ⟨g, rfl⟩ : ∃ q, g = q + 1 := ⟨g - 1, by omega⟩
  unfold toF
  rw [eU.kp i _ ir hi]
  cases g <;> rfl
end
end Dv

namespace Pn
open PySem PySem.Spec PyProof.Rows L2 Dv
section
variable {m : Nat} {S T : Sto}
theorem kd_seq {d : D} (h : Sure S d) : (isK (kdOf d S) .lst || isK (kdOf d S) .tup) = (seqL d S).isSome := by
  cases d with
  | ref i =>
    have hi := h i rfl
    have e := List.getElem?_eq_getElem hi
    unfold kdOf seqL
    dsimp only
    rw [e]
    cases S[i] <;> rfl
  | _ => rfl
theorem pair_e (hm : 4 ≤ m) (n : Int) (d : D) : Phi bodies m 0 2 [.int n, d] S = .ok (.bl (isPa n d)) S := pair_eq hW hP hQ hm n d
theorem lwhole_e (hm : 2 ≤ m) (d : D) : Phi bodies m 0 11 [d] S = .ok (.bl (isWh d)) S := whole_eq hL hm d
noncomputable def soD (n : Int) (d : D) (S : Sto) : D := match seqL d S with
  | some xs => if xs.all (isPa n) = true then .tup (isort ltK (xs.map normD)) else .non
  | none => .non
def soP (S : Sto) (x d : D) (T : Sto) : Prop := d = x ∧ Gw S T
theorem so_ok {n : Int} {d : D} (hm : 6 ≤ m) (hs : Sure S d) (hl : ∀ xs, seqL d S = some xs → xs.length ≤ 64) : (Phi bodies m 0 4 [.int n, d] S).wp (soP S (soD n d S)) noX := by
  have dn : (Phi bodies (m - 1)).dn = Phi bodies (m - 1 - 1) := dnP (by omega)
  have hq := fun d => pair_e (S := S) (show 4 ≤ m - 1 - 1 by omega) n d
  have kq : i2K .lst .tup d S = .ok (.bl (seqL d S).isSome) S := by rw [i2K_ap, kd_seq hs]
  refine wpP (by omega) so_is ?_
  unfold soF
  generalize hG : soR1 = G
  simp [-i2K_ap, kq]
  cases es : seqL d S with
  | none =>
    simp
    exact ⟨by unfold soD; rw [es], Gw.refl⟩
  | some gs =>
    have lg := hl gs es
    simp
    subst hG
    unfold soR1
    generalize hG : soR2 = G
    have A : ∀ (src : Src), src.items = gs → src.chk S → abGo false src.chk (.nm 2) (tYesD (Phi bodies (m - 1)).dn) (dCallF 2 2 (dCons (dVar 0) (dCons (dVar 2) dNil)) (Phi bodies (m - 1)).dn) (wipeE [some (.int n), some d, none] [2]) src.items S = .ok (.bl (gs.all (isPa n))) S := fun src h1 h2 => by
      rw [ab_all (p := isPa n) h2 fun x hx => ?_, h1]
      refine ⟨_, rfl, rfl, R.eq_of ?_⟩
      simp [wipeE, dn, hq]
    have B : (∀ g ∈ gs, isPa n g = true) → ∀ (src : Src), src.items = gs → src.chk S → glGo src.chk (.nm 2) (tYesD (Phi bodies (m - 1)).dn) (dTup (dCons (dCl min1D (dCons (dVar 2) dNil)) (dCons (dCl max1D (dCons (dVar 2) dNil)) dNil)) (Phi bodies (m - 1)).dn) (wipeE [some (.int n), some d, none] [2]) src.items [] S = .ok (gs.map normD) S := fun hp src h1 h2 => by
      rw [gl_all (f := normD) h2 (by rw [h1]; simp; omega) fun x hx => ?_, h1]
      · rfl
      · refine ⟨_, rfl, rfl, R.eq_of ?_⟩
        rw [h1] at hx
        match x, hp x hx with
        | .tup [.int i, .int j], _ =>
          simp [wipeE, normD, keyD]
          exact ⟨by congr, by congr⟩
    have np := norm_all (gs := gs)
    have lp := (isort_perm (lt := ltK) (gs.map normD)).length_eq
    rw [List.length_map] at lp
    have fin : ∀ (src : Src), src.items = gs → src.chk S → valR d S = .ok src S → ((sSeq (sIf (dNotT (dTru (dAb false (iVal (dVar 1)) (.nm 2) tYesD (dCallF 2 2 (dCons (dVar 0) (dCons (dVar 2) dNil))) [2]))) (sRet (dC .non)) sNil) G) (Phi bodies (m - 1)) [some (.int n), some d, none] S).wp (FlR (soP S (soD n d S)) noX) noX := fun src h1 h2 h3 => by
      have a := A src h1 h2
      simp [h3]
      rw [a]
      cases hp : gs.all (isPa n) with
      | false =>
        simp
        exact ⟨by unfold soD; rw [es]; simp [hp], Gw.refl⟩
      | true =>
        simp
        subst hG
        have b := B (fun g hg => List.all_eq_true.mp hp g hg) src h1 h2
        simp [soR2, h3]
        rw [b]
        simp
        exact ⟨⟨fun x hx => rfl, by omega⟩, by omega, by unfold soD; rw [es]; simp [hp], Gw.app _⟩
    cases d with
    | tup xs =>
      cases es
      exact fin (.tup gs) rfl trivial rfl
    | ref i =>
      have e : ∃ w, S[i]? = some (.lst w gs) := by
        unfold seqL at es
        dsimp only at es
        split at es
        · rename_i w xs e
          cases es
          exact ⟨w, e⟩
        · cases es
      obtain ⟨w, e⟩ := e
      exact fin (.lst i w gs) rfl e (by simp [e])
    | _ => cases es
/-! ### what is due -/
def okT (ts : List D) (x : D) : Bool := isPr x && inW (normD x) ts
open Classical in
noncomputable def resL (ts xs : List D) : Option (List D) := if xs.all (okT ts) = true ∧ (xs.map normD).Nodup then some (xs.map normD) else none
noncomputable def resF (ts : List D) (tt : D) (S : Sto) : Option (List D) := match seqL tt S with
  | some xs => resL ts xs
  | none => none
/-- the frame -/
structure Fm4 (n : Int) (ts : List D) : Prop where
  n1 : 1 ≤ n
  n8 : n ≤ 8
  st : Str_ ts
  ti : ∀ y ∈ ts, isTie n y = true
  l7 : ts.length ≤ 7
section
variable {n : Int} {ts xs : List D} {tt x : D}
theorem Fm4.pr (F : Fm4 n ts) : AllPr ts := fun y hy => tie_isPr (F.ti y hy)
theorem Fm4.b (F : Fm4 n ts) : AllB ts := fun y hy => tie_bp (F.ti y hy) F.n8
theorem isPa_norm {n : Int} {i j : Int} : isPa n (.tup [.int i, .int j]) = true ↔ 0 ≤ (if j < i then j else i) ∧ (if j < i then j else i) < (if i < j then j else i) ∧ (if i < j then j else i) < n := by
  show decide (0 ≤ i ∧ i < n ∧ 0 ≤ j ∧ j < n ∧ i ≠ j) = true ↔ _
  rw [decide_eq_true_iff]
  by_cases c : i < j
  · rw [if_neg (by omega), if_pos c]
    omega
  · rw [if_neg c]
    by_cases d : j < i
    · rw [if_pos d]
      omega
    · rw [if_neg d]
      omega
theorem nm_pr {y : D} : isPr (normD y) = true := rfl
theorem inW_m (F : Fm4 n ts) {y : D} (hy : isPr y = true) : inW y ts = true ↔ y ∈ ts := inW_iff hy F.pr
theorem okT_iff (F : Fm4 n ts) : okT ts x = true ↔ isPr x = true ∧ normD x ∈ ts := by
  unfold okT
  rw [Bool.and_eq_true, inW_m F nm_pr]
theorem okT_pa (F : Fm4 n ts) (h : okT ts x = true) : isPa n x = true := by
  obtain ⟨a, b⟩ := (okT_iff F).mp h
  obtain ⟨i, j, rfl⟩ := pr_get a
  exact isPa_norm.mpr (of_decide_eq_true (show decide (0 ≤ _ ∧ _ < _ ∧ _ < n) = true from F.ti _ b))
theorem pa_pr (h : isPa n x = true) : isPr x = true := by
  match x, h with
  | .tup [.int i, .int j], _ => rfl
theorem resL_some {l : List D} (h : resL ts xs = some l) : l = xs.map normD ∧ xs.all (okT ts) = true ∧ (xs.map normD).Nodup := by
  unfold resL at h
  split at h
  · rename_i c
    exact ⟨(Option.some.inj h).symm, c⟩
  · cases h
theorem resL_good (h : xs.all (okT ts) = true ∧ (xs.map normD).Nodup) : resL ts xs = some (xs.map normD) := by
  unfold resL
  rw [if_pos h]
theorem resL_bad (h : ¬ (xs.all (okT ts) = true ∧ (xs.map normD).Nodup)) : resL ts xs = none := by
  unfold resL
  rw [if_neg h]
theorem wb_res (F : Fm4 n ts) (h : xs.all (isPa n) = true) : isWb n ts (isort ltK (xs.map normD)) = (resL ts xs).isSome := by
  have al : (isort ltK (xs.map normD)).all (isTi n ts) = xs.all (okT ts) := by
    rw [Bool.eq_iff_iff, List.all_eq_true, List.all_eq_true]
    constructor
    · intro q x hx
      have z := q (normD x) ((isort_perm (lt := ltK) _).mem_iff.mpr (List.mem_map_of_mem hx))
      unfold isTi at z
      rw [Bool.and_eq_true] at z
      unfold okT
      rw [z.2, pa_pr (List.all_eq_true.mp h x hx)]
      rfl
    · intro q y hy
      obtain ⟨x, hx, rfl⟩ := List.mem_map.mp ((isort_perm (lt := ltK) _).mem_iff.mp hy)
      have z := q x hx
      unfold okT at z
      rw [Bool.and_eq_true] at z
      unfold isTi
      rw [z.2, tie_pa (norm_tie (List.all_eq_true.mp h x hx))]
      rfl
  unfold isWb
  rw [al]
  cases c : xs.all (okT ts) with
  | false =>
    rw [resL_bad fun q => by rw [c] at q; cases q.1]
    rfl
  | true =>
    rw [Bool.true_and]
    by_cases d : (xs.map normD).Nodup
    · rw [resL_good ⟨c, d⟩, str_ris (isort_str norm_all d)]
      rfl
    · rw [resL_bad fun q => d q.2]
      cases e : risB ((isort ltK (xs.map normD)).map keyD) with
      | false => rfl
      | true => exact absurd ((isort_perm (lt := ltK) _).nodup_iff.mp (str_nodup (risS e))) d
theorem nm_tie {y : D} (h : isTie n y = true) : normD y = y := by
  match y, h with
  | .tup [.int i, .int j], h =>
    have h : decide (0 ≤ i ∧ i < j ∧ j < n) = true := h
    have h := of_decide_eq_true h
    show D.tup [.int (if j < i then j else i), .int (if i < j then j else i)] = _
    rw [if_neg (by omega), if_pos (by omega)]
theorem mp_id {f : D → D} : ∀ {l : List D}, (∀ x ∈ l, f x = x) → l.map f = l
  | [], _ => rfl
  | x :: l, h => by rw [List.map_cons, h x List.mem_cons_self, mp_id fun y hy => h y (List.mem_cons_of_mem _ hy)]
theorem wb_is (F : Fm4 n ts) : isWb n ts xs = true ↔ ∃ l, resL ts xs = some l ∧ xs = isort ltK l := by
  constructor
  · intro h
    unfold isWb at h
    rw [Bool.and_eq_true] at h
    have mem : ∀ x ∈ xs, x ∈ ts := fun x hx => by
      have z := List.all_eq_true.mp h.1 x hx
      unfold isTi at z
      rw [Bool.and_eq_true] at z
      exact (inW_m F (pa_pr z.1)).mp z.2
    have em : xs.map normD = xs := mp_id fun x hx => nm_tie (F.ti x (mem x hx))
    have st := risS h.2
    refine ⟨xs, ?_, (isort_is st (fun x hx => F.pr x (mem x hx)) (List.Perm.refl _)).symm⟩
    have g := resL_good (ts := ts) (xs := xs) ⟨List.all_eq_true.mpr fun x hx => (okT_iff F).mpr ⟨F.pr x (mem x hx), by rw [nm_tie (F.ti x (mem x hx))]; exact mem x hx⟩, by rw [em]; exact str_nodup st⟩
    rw [em] at g
    exact g
  · rintro ⟨l, h1, h2⟩
    obtain ⟨rfl, a, nd⟩ := resL_some h1
    have q := wb_res F (xs := xs) (List.all_eq_true.mpr fun x hx => okT_pa F (List.all_eq_true.mp a x hx))
    rw [← h2, h1] at q
    exact q
end
def frD (n : Int) (ts : List D) : D := .tup [.int n, .tup ts]
def webB (n : Int) (ts : List D) : D → Bool
  | .tup xs => isWb n ts xs
  | _ => false
theorem web_e {n : Int} {ts : List D} (F : Fm4 n ts) (hm : 7 ≤ m) (d : D) (hl : ∀ xs, d = .tup xs → xs.length ≤ 1000) : Phi bodies m 0 6 [frD n ts, d] S = .ok (.bl (webB n ts d)) S := by
  have l7 := F.l7
  cases d with
  | tup xs =>
    have := hl xs rfl
    exact isWeb_eq hW hP hQ hR hK hB hm F.n8 F.b (by omega) (by omega)
  | _ => refine R.eq_of (wpP (by omega) hB ?_); simp [isWebF]; rfl
theorem wo_ok {n : Int} {ts : List D} (F : Fm4 n ts) {tt : D} (hm : 9 ≤ m) (hs : Sure S tt) (hl : ∀ xs, seqL tt S = some xs → xs.length ≤ 64) : (Phi bodies m 0 7 [frD n ts, tt] S).wp (fun d T => Gw S T ∧ ∃ l, resF ts tt S = some l ∧ d = .tup (isort ltK l)) (fun c T => c = 0 ∧ Gw S T ∧ resF ts tt S = none) := by
  refine wpP (by omega) wo_is ?_
  unfold woF
  generalize hG : woR1 = G
  simp [frD]
  refine R.to (so_ok (by omega) hs hl) ?_
  rintro d T ⟨rfl, gT⟩
  simp
  subst hG
  unfold woR1
  generalize hG : woR2 = G
  have no : soD n tt S = .non → resF ts tt S = none → ((sSeq (sIf (dNotT (dTru (dCallF 6 2 (dCons (dVar 0) (dCons (dVar 2) dNil))))) (sRz 0) sNil) G) (Phi bodies (m - 1)) [some (.tup [.int n, .tup ts]), some tt, some (soD n tt S)] T).wp (FlR (fun d T => Gw S T ∧ ∃ l, resF ts tt S = some l ∧ d = .tup (isort ltK l)) (fun c T => c = 0 ∧ Gw S T ∧ resF ts tt S = none)) noX := fun h1 h2 => by
    have w := web_e (S := T) (m := m - 1) F (by omega) .non fun xs h => nomatch h
    unfold frD at w
    rw [h1]
    simp [w, webB]
    exact ⟨rfl, gT, h2⟩
  cases es : seqL tt S with
  | none => exact no (by unfold soD; rw [es]) (by unfold resF; rw [es])
  | some xs =>
    have lx := hl xs es
    have rf : resF ts tt S = resL ts xs := by unfold resF; rw [es]
    by_cases hp : xs.all (isPa n) = true
    · have e : soD n tt S = .tup (isort ltK (xs.map normD)) := by unfold soD; rw [es]; exact if_pos hp
      have lp := (isort_perm (lt := ltK) (xs.map normD)).length_eq
      rw [List.length_map] at lp
      have w := web_e (S := T) (m := m - 1) F (by omega) (.tup (isort ltK (xs.map normD))) fun ys h => by cases h; omega
      unfold frD at w
      have z := wb_res F hp
      rw [e]
      simp [w, webB, z]
      cases er : resL ts xs with
      | none =>
        simp
        exact ⟨rfl, gT, rf.trans er⟩
      | some l =>
        simp
        subst hG
        simp [woR2]
        exact ⟨gT, l, rf.trans er, by rw [(resL_some er).1]⟩
    · refine no (by unfold soD; rw [es]; exact if_neg hp) ?_
      rw [rf]
      exact resL_bad fun q => hp (List.all_eq_true.mpr fun x hx => okT_pa F (List.all_eq_true.mp q.1 x hx))
end
end Pn

namespace Dv
open PySem PySem.Spec PyProof.Rows L2 Df
/-! ### plans -/
inductive Pl | fin (b : Bool) | ask (t : D) (y n : Pl)
def plD : Pl → D
  | .fin b => .tup [.str "end", .bl b]
  | .ask t y n => .tup [.str "ask", t, plD y, plD n]
def Pl.dp : Pl → Nat
  | .fin _ => 0
  | .ask _ y n => max y.dp n.dp + 1
def Pl.al (A : D → Prop) : Pl → Prop
  | .fin _ => True
  | .ask t y n => A t ∧ y.al A ∧ n.al A
@[simp] theorem at2' {x y z : D} {xs : List D} : L2.atI (x :: y :: z :: xs) 2 = some z := L2.atI_nat (j := 2) rfl
@[simp] theorem at3 {x y z u : D} {xs : List D} : L2.atI (x :: y :: z :: u :: xs) 3 = some u := L2.atI_nat (j := 3) rfl
theorem plD_at {p : Pl} : ∃ w xs, plD p = .tup (.str w :: xs) ∧ (w = Str.ofString "ask" ∨ w = Str.ofString "end") := by
  cases p with
  | fin b => exact ⟨_, _, rfl, .inr rfl⟩
  | ask t y n => exact ⟨_, _, rfl, .inl rfl⟩
@[simp] theorem w_end_ask : Str.ofString "end" = Str.ofString "ask" ↔ False := iff_false_intro (by decide +kernel)
@[simp] theorem w_ask_end : Str.ofString "ask" = Str.ofString "end" ↔ False := iff_false_intro (by decide +kernel)
/-! ### followed -/
section
variable {bs : Bodies} {m i : Nat} {S : Sto} {ws : List D} {p : Pl}
end
/-! ### the numbers that fit -/
/-- a number whose twos agree with what is known -/
def okK : List D → Nat → Bool
  | [], _ => true
  | k :: ks, q => (noB k || isB (decide (q % 2 = 1)) k) && okK ks (q / 2)
end Dv

namespace Dv
open PySem PySem.Spec PyProof.Rows L2 Df
/-! ### what is known, drawn -/
def goodL (ks : List D) (N : Nat) : List Nat := (List.range N).filter (okK ks)
section
variable {bs : Bodies} {P : Sto → Nat → Prop} {iT m r i n : Nat} {S : Sto} {ts ks : List D}
end
end Dv

namespace Dv
open PySem PySem.Spec PyProof.Rows L2 Df
/-! ### the first web of which the plan tells the other truth -/
def tabL (ts : List D) (f : Nat → Bool) : List D := (List.range (2 ^ ts.length)).map fun k => .bl (f k)
section
variable {bs : Bodies} {m i n : Nat} {S : Sto} {ts ks : List D}
end
end Dv

namespace Dv
open PySem PySem.Spec PyProof.Rows L2 Df
/-! ### wishes drawn, of some words -/
section
variable {bs : Bodies} {P : Sto → Nat → Prop} {iT iW m r n : Nat} {ts : List D} {S : Sto}
end
end Dv

namespace Dv
open PySem PySem.Spec PyProof.Rows L2 Df
/-! ### which webs have a wish, by the law -/
section
variable {bs : Bodies} {m n iY iO k : Nat} {ts : List D} {S : Sto}
end
end Dv

namespace Dv
open PySem PySem.Spec PyProof.Rows L2 Df
/-! ### plans drawn -/
theorem Pl.al.imp {A B : D → Prop} (h : ∀ t, A t → B t) : ∀ {p : Pl}, p.al A → p.al B
  | .fin _, _ => trivial
  | .ask _ _ _, ⟨a, y, n⟩ => ⟨h _ a, Pl.al.imp h y, Pl.al.imp h n⟩
section
variable {bs : Bodies} {P : Sto → Nat → Prop} {iT iP iL m r n : Nat} {ts : List D} {S : Sto}
/-! ### an end turned about -/
end
end Dv

namespace Dv
open PySem PySem.Spec PyProof.Rows L2 Df
/-! ### a plan that tells a wish, drawn -/
theorem AllK.set {ks : List D} (h : AllK ks) {i : Nat} {b : Bool} : AllK (ks.set i (.bl b)) := fun x hx => by
  rcases List.mem_or_eq_of_mem_set hx with z | z
  · exact h x z
  · exact .inr ⟨b, z⟩
section
variable {bs : Bodies} {P : Sto → Nat → Prop} {iT iP m r : Nat} {ts : List D} {S : Sto}
/-- where the def stands -/
structure RpAt (S : Sto) (r a b t : Nat) (us : List Nat) (ks : List D) (ts : List D) (f : Nat → Bool) : Prop where
  ha : S[a]? = some (.lst true (us.map iD))
  hb : S[b]? = some (.lst true ((goodL ks (2 ^ ts.length)).map iD))
  ht : ∃ w, S[t]? = some (.lst w (tabL ts f))
  ne : a ≠ r ∧ b ≠ r ∧ t ≠ r
theorem RpAt.ev {S T : Sto} {a b t : Nat} {us : List Nat} {ks : List D} {f : Nat → Bool} (h : RpAt S r a b t us ks ts f) (e : EvP P r S T) : RpAt T r a b t us ks ts f :=
  ⟨e.kp _ _ h.ne.1 h.ha, e.kp _ _ h.ne.2.1 h.hb, by obtain ⟨w, h1⟩ := h.ht; exact ⟨w, e.kp _ _ h.ne.2.2 h1⟩, h.ne⟩
theorem RpAt.up {S T : Sto} {a b t : Nat} {us : List Nat} {ks : List D} {f : Nat → Bool} (h : RpAt S r a b t us ks ts f) (e : Gw S T) : RpAt T r a b t us ks ts f :=
  ⟨e.kp _ _ h.ha, e.kp _ _ h.hb, by obtain ⟨w, h1⟩ := h.ht; exact ⟨w, e.kp _ _ h1⟩, h.ne⟩
end
end Dv

namespace Dv
open PySem PySem.Spec PyProof.Rows L2 Df
/-! ### plans and known things shown -/
section
variable {S : Sto} {n : Nat} {ts ks : List D}
end
/-- a plan that is asked -/
def Gd (ts : List D) (p : Pl) : Prop := p.al (· ∈ ts) ∧ p.dp ≤ 7
end Dv

namespace Dv
open PySem PySem.Spec PyProof.Rows L2 Df
/-! ### the place of a tie -/
@[simp] theorem mul_t {xs : List D} {k : Int} {S : Sto} : mulD (.tup xs) (.int k) S = if k ≤ 1000 ∧ -1000 ≤ k ∧ xs.length ≤ 1000 then .ok (.tup (List.replicate k.toNat xs).flatten) S else .no := id rfl
theorem toP_prs {S : Sto} {ws : List D} (hw : AllB ws) (hl : ws.length ≤ 900) : toP S 1000 (.tup ws) = some (.tuple (ws.map prP)) := by
  have e := toPs_bp (S := S) (n := 994 - ws.length) hw
  rw [show 994 - ws.length + 5 + ws.length = 999 from by omega] at e
  unfold toP
  rw [e]; rfl
/-! ### what is known of a tie -/
/-! ### cut -/
/-- each way asks things of ts, none twice, none of as -/
def wayP (G : D → Prop) : List D → Pl → Prop
  | _, .fin _ => True
  | as, .ask t y n => G t ∧ t ∉ as ∧ wayP G (as ++ [t]) y ∧ wayP G (as ++ [t]) n
theorem wayP.al {G : D → Prop} : ∀ {p : Pl} {as : List D}, wayP G as p → p.al G
  | .fin _, _, _ => trivial
  | .ask _ _ _, _, ⟨g, _, y, n⟩ => ⟨g, y.al, n.al⟩
/-! ### the def -/
section
variable {bs : Bodies} {iC n : Nat} {ts ks : List D}
end
end Dv

namespace Dv
open PySem PySem.Spec PyProof.Rows L2 Df
/-! ### plans drawn, no tie twice on a way -/
/-- a plan over l: each way asks things of it, none twice -/
def ovP (l : List D) (p : Pl) : Prop := ∀ as, (∀ t ∈ l, t ∉ as) → wayP (· ∈ l) as p
theorem ovP.fin {l : List D} {b : Bool} : ovP l (.fin b) := fun _ _ => trivial
theorem wayP.imp {G H : D → Prop} (h : ∀ t, G t → H t) : ∀ {p : Pl} {as : List D}, wayP G as p → wayP H as p
  | .fin _, _, _ => trivial
  | .ask _ _ _, _, ⟨g, a, y, n⟩ => ⟨h _ g, a, y.imp h, n.imp h⟩
theorem ovP.ask {l : List D} {k : Nat} (nd : l.Nodup) (hk : k < l.length) {y n : Pl} (hy : ovP (l.eraseIdx k) y) (hn : ovP (l.eraseIdx k) n) : ovP l (.ask l[k] y n) := by
  intro as h
  have mem : ∀ t ∈ l.eraseIdx k, t ∈ l := fun t ht => (List.eraseIdx_sublist l k).subset ht
  have ne : ∀ t ∈ l.eraseIdx k, t ∉ as ++ [l[k]] := fun t ht z => by
    rcases List.mem_append.mp z with z | z
    · exact h t (mem t ht) z
    · rw [List.mem_singleton.mp z] at ht
      have e : l.eraseIdx k = l.take k ++ l.drop (k + 1) := List.eraseIdx_eq_take_drop_succ l k
      have s : l = l.take k ++ l[k] :: l.drop (k + 1) := by rw [List.getElem_cons_drop, List.take_append_drop]
      have nd2 := nd
      rw [s, List.nodup_append] at nd2
      obtain ⟨_, n2, n3⟩ := nd2
      rw [e] at ht
      rcases List.mem_append.mp ht with q | q
      · exact n3 _ q _ List.mem_cons_self rfl
      · exact (List.nodup_cons.mp n2).1 q
  exact ⟨List.getElem_mem hk, h _ (List.getElem_mem hk), (hy _ ne).imp mem, (hn _ ne).imp mem⟩
section
variable {bs : Bodies} {P : Sto → Nat → Prop} {iT iP m r : Nat} {S : Sto}
end
end Dv

namespace Dv
open PySem PySem.Spec PyProof.Rows L2 Df
/-! ### the law's own look at a plan, ask by ask -/
def Pl.sz : Pl → Nat
  | .fin _ => 1
  | .ask _ y n => y.sz + n.sz + 1
theorem Shp.str {S : Sto} {x : Str} (h : PyData.strOk x = true) : Shp S 1 0 (.str x) := ⟨.str x, rfl, by simp [PyData.canLay0, h], by simp [PyData.depth]⟩
/-- what waits: a plan, the ties asked ahead of it, where they stand -/
abbrev Wt := Pl × List D × Nat
structure WtOk (ts : List D) (T : Sto) (w : Nat) (x : Wt) : Prop where
  wy : wayP (· ∈ ts) x.2.1 x.1
  as : T[x.2.2]? = some (.lst true x.2.1)
  lt : x.2.2 < w
  dp : x.1.dp + x.2.1.length ≤ 100
  al : ∀ t ∈ x.2.1, t ∈ ts
@[simp] theorem in24 {S : Sto} : ninD (.int 2) (.tup [.int 2, .int 4]) S = .ok (.bl false) S := by rfl
@[simp] theorem in24' {S : Sto} : ninD (.int 4) (.tup [.int 2, .int 4]) S = .ok (.bl false) S := by rfl
@[simp] theorem ix_fr1 {S : Sto} {n : Nat} {ts : List D} : ixD (fr n ts) (.int 1) S = .ok (.tup ts) S := by unfold fr; simp
@[simp] theorem ix_fr0 {S : Sto} {n : Nat} {ts : List D} : ixD (fr n ts) (.int 0) S = .ok (.int (n : Int)) S := by unfold fr; simp
theorem in_prl {S : Sto} {t : D} {l : Nat} {b : Bool} {ws : List D} (h : S[l]? = some (.lst b ws)) (ht : BP t) (hw : AllB ws) (hl : ws.length ≤ 900) : inD t (.ref l) S = .ok (.bl (inW t ws)) S := by
  have e := nin_prl h ht hw hl
  unfold ninD at e
  unfold inD
  split at e
  · rename_i b' eb
    injection e with e1 e2
    injection e1 with e1
    simp at e1
    rw [e1]
  · cases e
section
variable {bs : Bodies} {m n : Nat} {ts ks : List D} {S : Sto}
end
end Dv

namespace Pn
open PySem PySem.Spec PyProof.Rows L2 Dv
section
variable {m : Nat} {S T : Sto}
/-! ### the ties that are due -/
/-- what _law_ties answers -/
def duQ (S : Sto) (o : Option (List D)) (d : D) (T : Sto) : Prop := Gw S T ∧ match o with
  | some l => ∃ i, d = .ref i ∧ S.length ≤ i ∧ T[i]? = some (.lst true l)
  | none => d = .non
def duE (n : Int) (ts : List D) (tt : D) (l : Nat) (o3 o4 : Option D) : Dv.Env := [some (frD n ts), some tt, some (.ref l), o3, o4]
def duJ (S : Sto) (n : Int) (ts : List D) (tt : D) (all : List D) (l : Nat) (xs : List D) (ρ : Dv.Env) (T : Sto) : Prop := ∃ dn o3 o4, all = dn ++ xs ∧ ρ = duE n ts tt l o3 o4 ∧ T[l]? = some (.lst true (dn.map normD)) ∧ dn.all (okT ts) = true ∧ (dn.map normD).Nodup ∧ Gw S T
theorem duB_ok {F : DenS} (hF : F = duB1) (hm : 3 ≤ m) {n : Int} {ts : List D} (Fr : Fm4 n ts) {tt : D} {all : List D} (la : all.length ≤ 64) (hb : ¬ (all.all (okT ts) = true ∧ (all.map normD).Nodup) → resF ts tt S = none) {l : Nat} (lS : S.length ≤ l) {x : D} {xs : List D} {ρ : Dv.Env} {V : Sto} (I : duJ S n ts tt all l (x :: xs) ρ V) {Q : Fl → Sto → Prop} (hQ : ∀ T, duQ S (resF ts tt S) .non T → Q (.rt .non) T) :
    ∃ ρ1, tgD (.nm 3) x ρ = some ρ1 ∧ (F (Phi bodies m) ρ1 V).wp (forQ (duJ S n ts tt all l xs) Q) noX := by
  obtain ⟨dn, o4, o5, e, rfl, hl, ap, nd, g⟩ := I
  subst hF
  have l7 := Fr.l7
  have hw := fun d => lwhole_e (S := V) (show 2 ≤ m by omega) d
  have no : okT ts x = false → Q (.rt .non) V := fun h => hQ V (by
    rw [hb fun z => by
      have := List.all_eq_true.mp z.1 x (by rw [e]; simp)
      rw [h] at this
      cases this]
    exact ⟨g, rfl⟩)
  refine ⟨_, rfl, ?_⟩
  unfold duB1
  generalize hG : duB1R1 = G
  simp only [duE, frD]
  have lt := (List.getElem?_eq_some_iff.mp hl).1
  cases x with
  | tup zs =>
    match zs with
    | [] => simp; exact no rfl
    | [x] => simp; exact no (by cases x <;> rfl)
    | x :: y :: z :: r =>
      simp
      have q : okT ts (.tup (x :: y :: z :: r)) = false := by cases x <;> cases y <;> rfl
      exact ⟨fun h => by omega, fun _ => no q⟩
    | [x, y] =>
      cases x with
      | int i =>
        cases y with
        | int j =>
          simp [hw, isWh]
          subst hG
          unfold duB1R1
          generalize hG : duB1R2 = G
          have nm : D.tup [.int (if j < i then j else i), .int (if i < j then j else i)] = normD (.tup [.int i, .int j]) := rfl
          have ld : (dn.map normD).length ≤ 64 := by
            have := congrArg List.length e
            simp at this ⊢
            omega
          have ni := nin_pq (S := V) (t := normD (.tup [.int i, .int j])) (ws := ts) nm_pr Fr.pr (by omega)
          have ii := in_pql (S := V) (t := normD (.tup [.int i, .int j])) hl nm_pr norm_all (by omega)
          rw [← nm] at ni ii
          simp
          subst hG
          unfold duB1R2
          generalize hG : duB1R3 = G
          simp [ni, ii]
          have iw := inW_iff (t := normD (.tup [.int i, .int j])) (ws := dn.map normD) nm_pr norm_all
          have it := inW_iff (t := normD (.tup [.int i, .int j])) (ws := ts) nm_pr Fr.pr
          rw [← nm] at iw it
          refine ⟨fun h1 => ?_, fun h1 => ⟨fun h2 => ?_, fun h2 => ?_⟩⟩
          · exact no (by unfold okT; rw [← nm, h1]; rfl)
          · refine hQ V ?_
            rw [hb fun z => ?_]
            · exact ⟨g, rfl⟩
            · have nd2 := z.2
              rw [e, List.map_append, List.map_cons] at nd2
              exact (List.nodup_append.mp nd2).2.2 _ (iw.mp h2) _ List.mem_cons_self rfl
          · subst hG
            unfold duB1R3
            simp [hl]
            refine ⟨mx_small (by simp at ld; omega), dn ++ [.tup [.int i, .int j]], _, _, by rw [e]; simp, rfl, ?_, ?_, ?_, g.put lS⟩
            · rw [List.getElem?_set_self lt, List.map_append]
              rfl
            · rw [List.all_append, ap, Bool.true_and]
              simp [okT, isPr]
              exact h1
            · rw [List.map_append]
              refine List.nodup_append.mpr ⟨nd, by simp, fun a ha b hb2 q => ?_⟩
              rw [List.map_cons, List.map_nil, List.mem_singleton] at hb2
              rw [hb2] at q
              rw [q] at ha
              rw [iw.mpr ha] at h2
              cases h2
        | _ => simp [hw, isWh]; exact no rfl
      | _ => simp [hw, isWh]; exact no (by cases y <;> rfl)
  | _ => simp; exact no rfl
theorem du_ok {n : Int} {ts : List D} (Fr : Fm4 n ts) {tt : D} (hm : 4 ≤ m) (hs : Sure S tt) (hl : ∀ xs, seqL tt S = some xs → xs.length ≤ 64) : (Phi bodies m 0 12 [frD n ts, tt] S).wp (duQ S (resF ts tt S)) noX := by
  have kq : i2K .lst .tup tt S = .ok (.bl (seqL tt S).isSome) S := by rw [i2K_ap, kd_seq hs]
  refine wpP (by omega) du_is ?_
  unfold duF
  generalize hG : duR1 = G
  simp [-i2K_ap, kq]
  cases es : seqL tt S with
  | none =>
    simp
    have z : resF ts tt S = none := by unfold resF; rw [es]
    rw [z]
    exact ⟨Gw.refl, rfl⟩
  | some xs =>
    simp
    subst hG
    unfold duR1
    generalize hG : duR2 = G
    simp
    subst hG
    unfold duR2
    generalize hG : duR3 = G
    generalize hB : duB1 = B
    have lx := hl xs es
    have rf : resF ts tt S = resL ts xs := by unfold resF; rw [es]
    have hb : ¬ (xs.all (okT ts) = true ∧ (xs.map normD).Nodup) → resF ts tt S = none := fun z => by rw [rf, resL_bad z]
    have fin : ∀ (src : Src), src.items = xs → (∀ T, Gw S T → src.chk T) → (∀ T, Gw S T → valR tt T = .ok src T) → ((sSeq (sFor (iVal (dVar 1)) (.nm 3) B) G) (Phi bodies (m - 1)) (duE n ts tt S.length none none) (S ++ [.lst true []])).wp (FlR (duQ S (resF ts tt S)) noX) noX := fun src h1 h2 h3 => by
      have h4 := h3 _ (Gw.app [O.lst true []])
      simp [duE, h4]
      rw [h1]
      refine for_inv (duJ S n ts tt xs S.length) ?_ ?_ _ _ _ ⟨[], none, none, rfl, rfl, at_a0, rfl, List.nodup_nil, Gw.app _⟩
      · intro x ys ρ V I
        obtain ⟨_, _, _, _, _, _, _, _, gV⟩ := id I
        exact ⟨h2 _ gV, duB_ok (m := m - 1) hB.symm (by omega) Fr lx hb (Nat.le_refl _) I fun T q => q⟩
      · rintro ρ V ⟨dn, o4, o5, e, rfl, hl, ap, nd, gV⟩
        rw [List.append_nil] at e
        subst e
        refine ⟨h2 _ gV, ?_⟩
        subst hG
        simp [duR3, duE]
        rw [rf, resL_good ⟨ap, nd⟩]
        exact ⟨gV, _, rfl, Nat.le_refl _, hl⟩
    cases tt with
    | tup ys =>
      cases es
      exact fin (.tup xs) rfl (fun _ _ => trivial) fun _ _ => rfl
    | ref i =>
      have e : ∃ w, S[i]? = some (.lst w xs) := by
        unfold seqL at es
        dsimp only at es
        split at es
        · rename_i w ys e
          cases es
          exact ⟨w, e⟩
        · cases es
      obtain ⟨w, e⟩ := e
      exact fin (.lst i w xs) rfl (fun T g => g.kp _ _ e) fun T g => by simp [g.kp _ _ e]
    | _ => cases es
def toD : Option (List D) → D
  | some l => .tup [.str "made", .tup (isort ltK l)]
  | none => .tup [.str "refused", .non]
theorem to_ok {n : Int} {ts : List D} (Fr : Fm4 n ts) {tt : D} {b : Bool} (hm : 11 ≤ m) (hs : Sure S tt) (hl : ∀ xs, seqL tt S = some xs → xs.length ≤ 64) : (Phi bodies m 0 13 [frD n ts, tt, .bl b] S).wp (soP S (toD (resF ts tt S))) noX := by
  have q10 : xq 1 0 = true := rfl
  have q00 : xq 0 0 = true := rfl
  have qa : isA xq [2, 3, 4, 5, 6, 7, 8, 9] 0 = false := rfl
  have z := wo_ok (m := m - 1) Fr (by omega) hs hl
  refine wpP (by omega) to_is ?_
  unfold toF
  generalize hG : toR1 = G
  simp
  subst hG
  unfold toR1
  generalize hG : toR2 = G
  simp
  subst hG
  unfold toR2
  generalize hG : toR3 = G
  cases e : Phi bodies (m - 1) 0 7 [frD n ts, tt] S with
  | no => rw [e] at z; exact z.elim
  | ok d T =>
    rw [e] at z
    obtain ⟨gT, l, er, rfl⟩ := z
    have fin : (G (Phi bodies (m - 1)) [some (frD n ts), some tt, some (.bl b), some .non, some (.tup (isort ltK l)), none] T).wp (FlR (soP S (toD (resF ts tt S))) noX) noX := by
      subst hG
      simp [toR3, er, noB]
      exact ⟨rfl, gT⟩
    cases b <;> simp [e] <;> exact fin
  | ex c T =>
    rw [e] at z
    obtain ⟨rfl, gT, er⟩ := z
    have fin : (G (Phi bodies (m - 1)) [some (frD n ts), some tt, some (.bl b), some (.ref T.length), some .non, none] (T ++ [.xc (xnm 0) 0])).wp (FlR (soP S (toD (resF ts tt S))) noX) noX := by
      subst hG
      unfold toR3
      generalize hG : toR4 = G
      simp [noB]
      subst hG
      simp [toR4, toR5, q00, qa, er]
      exact ⟨rfl, gT.trans (Gw.app _)⟩
    cases b <;> simp [e, q10, q00] <;> exact fin
end
end Pn

namespace Pn
open PySem PySem.Spec PyProof.Rows L2 Dv
section
variable {m r : Nat} {S T : Sto}
/-- a thing that is there, younger than the pen, not too long -/
def Gd (r : Nat) (S : Sto) (d : D) : Prop := (∀ i, d = .ref i → r < i ∧ ∃ o, S[i]? = some o ∧ (nDk (some o) = true → ∃ xs, o = .lst true xs ∧ xs.length ≤ 64)) ∧ ∀ xs, d = .tup xs → xs.length ≤ 64
theorem Gd.ev {d : D} (h : Gd r S d) (e : Ev r S T) : Gd r T d := by
  refine ⟨fun i hi => ?_, h.2⟩
  obtain ⟨h1, o, h2, h3⟩ := h.1 i hi
  exact ⟨h1, o, e.kp i _ (by omega) h2, h3⟩
theorem Gd.lst {i : Nat} {xs : List D} (ir : r < i) (h : S[i]? = some (.lst true xs)) (l : xs.length ≤ 64) : Gd r S (.ref i) := by
  refine ⟨fun j hj => ?_, fun ys hy => nomatch hy⟩
  cases hj
  exact ⟨ir, _, h, fun _ => ⟨_, rfl, l⟩⟩
theorem Gd.sure {d : D} (h : Gd r S d) : Sure S d := fun i e => by
  obtain ⟨_, o, h2, _⟩ := h.1 i e
  exact (List.getElem?_eq_some_iff.mp h2).1
theorem Gd.sq {d : D} (h : Gd r S d) : ∀ xs, seqL d S = some xs → xs.length ≤ 64 := fun xs hx => by
  cases d with
  | tup ys => cases hx; exact h.2 _ rfl
  | ref i =>
    obtain ⟨_, o, h2, h3⟩ := h.1 i rfl
    unfold seqL at hx
    dsimp only at hx
    rw [h2] at hx
    split at hx
    · rename_i w ys e
      cases hx
      cases e
      obtain ⟨zs, z1, z2⟩ := h3 rfl
      cases z1
      exact z2
    · cases hx
  | _ => cases hx
theorem Gd.dk {i : Nat} (ir : r < i) (h : S[i]? = some (.dk [])) : Gd r S (.ref i) := ⟨fun j hj => by cases hj; exact ⟨ir, _, h, fun e => nomatch (show false = true from e)⟩, fun ys hy => nomatch hy⟩
theorem Gd.dn {i : Nat} {kvs : List (D × D)} (ir : r < i) (h : S[i]? = some (.dn kvs)) : Gd r S (.ref i) := ⟨fun j hj => by cases hj; exact ⟨ir, _, h, fun e => nomatch (show false = true from e)⟩, fun ys hy => nomatch hy⟩
theorem Gd.tup {xs : List D} (l : xs.length ≤ 64) : Gd r S (.tup xs) := ⟨fun i h => (by cases h), fun ys hy => by cases hy; exact l⟩
theorem Gd.non : Gd r S .non := ⟨fun i h => (by cases h), fun ys hy => by cases hy⟩
theorem Gd.bl {b : Bool} : Gd r S (.bl b) := ⟨fun i h => (by cases h), fun ys hy => by cases hy⟩
theorem Gd.int {i : Int} : Gd r S (.int i) := ⟨fun i h => (by cases h), fun ys hy => by cases hy⟩
theorem Gd.str {x : Str} : Gd r S (.str x) := ⟨fun i h => (by cases h), fun ys hy => by cases hy⟩
/-! ### shown -/
section
variable {f k w w1 w2 w3 : Nat} {a b c : D}
theorem q1 (h : FQ r S f k w a) : FQs r S (f + 1) k (w + 1) [a] := (FQs.cons h (FQs.nil.up (by omega) (by omega) (Nat.le_refl _))).up (Nat.le_refl _) (Nat.le_refl _) (by omega)
theorem q2 (h1 : FQ r S f k w1 a) (h2 : FQ r S f k w2 b) : FQs r S (f + 2) k (w1 + w2 + 2) [a, b] := (FQs.cons (h1.up (Nat.le_succ f) (Nat.le_refl _) (Nat.le_refl _)) (q1 h2)).up (Nat.le_refl _) (Nat.le_refl _) (by omega)
theorem q3 (h1 : FQ r S f k w1 a) (h2 : FQ r S f k w2 b) (h3 : FQ r S f k w3 c) : FQs r S (f + 3) k (w1 + w2 + w3 + 3) [a, b, c] := (FQs.cons (h1.up (show f ≤ f + 2 by omega) (Nat.le_refl _) (Nat.le_refl _)) (q2 h2 h3)).up (Nat.le_refl _) (Nat.le_refl _) (by omega)
end
def dQ (r : Nat) (S : Sto) (d : D) (T : Sto) : Prop := Ev r S T ∧ Gd r T d ∧ FQ r T 90 30 300 d
def dI (S : Sto) (r : Nat) (xs : List D) (ρ : Dv.Env) (S' : Sto) : Prop := ∃ d o j, j + xs.length = 25 ∧ ρ = [some (.ref r), some d, o] ∧ Ev r S S' ∧ Gd r S' d ∧ FQ r S' (10 + 3 * j) (2 + j) (20 + 7 * j) d
theorem deep_ok (hm : 3 ≤ m) (h : Pen S r) : (Phi bodies m 0 14 [.ref r] S).wp (dQ r S) noX := by
  have rl := h.lt
  refine wpP (by omega) de_is ?_
  unfold deF
  generalize hG : deR1 = G
  simp [mx]
  refine pick_ok hT (by omega) (h.app _) at_a0 (by omega) (by rfl) (by omega) (by omega) fun x hx S1 ev => ?_
  have ev1 := (Ev.app h _).trans ev
  have gx : Gd r S1 x ∧ FQ r S1 10 2 20 x := by
    simp only [List.mem_cons, List.not_mem_nil, or_false] at hx
    rcases hx with rfl | rfl | rfl | rfl
    · exact ⟨Gd.int, (FQ.small (by omega)).up (by omega) (by omega) (by omega)⟩
    · exact ⟨Gd.non, FQ.non.up (by omega) (by omega) (by omega)⟩
    · exact ⟨Gd.tup (by simp), (q2 (FQ.small (i := 0) (by omega)) (FQ.small (i := 1) (by omega))).tup.up (by omega) (by omega) (by omega)⟩
    · exact ⟨Gd.bl, FQ.bl.up (by omega) (by omega) (by omega)⟩
  simp
  subst hG
  unfold deR1
  generalize hG : deR2 = G
  generalize hB : deB1 = B
  simp
  refine for_inv (dI S r) ?_ ?_ _ _ _ ⟨_, _, 0, by rw [rng_len], rfl, ev1, gx.1, gx.2⟩
  · rintro y ys ρ S2 ⟨d, o, j, ej, rfl, e2, gd, fd⟩
    rw [List.length_cons] at ej
    refine ⟨trivial, _, rfl, ?_⟩
    subst hB
    unfold deB1
    simp [mx]
    have e2l := e2.ln
    refine pick_ok hT (by omega) (e2.pn.app _) (at_ak (k := 1) rfl) (by omega) (by rfl) (by omega) (by omega) fun x hx S3 ev => ?_
    simp
    have ev3 := (Ev.app e2.pn _).trans ev
    have f3 := fd.ev ev3
    refine ⟨_, _, j + 1, by omega, rfl, e2.trans ev3, ?_⟩
    have up : ∀ {d f k w}, FQ r S3 f k w d → f ≤ 10 + 3 * (j + 1) → k ≤ 2 + (j + 1) → w ≤ 20 + 7 * (j + 1) → FQ r S3 (10 + 3 * (j + 1)) (2 + (j + 1)) (20 + 7 * (j + 1)) d := fun h a b c => h.up a b c
    simp only [List.mem_cons, List.not_mem_nil, or_false] at hx
    rcases hx with rfl | rfl | rfl
    · exact ⟨Gd.tup (by simp), up (q1 f3).tup (by omega) (by omega) (by omega)⟩
    · have i0 := ev.kp _ _ (by omega) (at_a0 (S := S2))
      exact ⟨Gd.lst (by omega) i0 (by simp), up ((q1 f3).lst (by omega) i0) (by omega) (by omega) (by omega)⟩
    · exact ⟨Gd.tup (by simp), up (q2 ((FQ.small (i := 0) (by omega)).up (by omega) (by omega) (Nat.le_refl _)) f3).tup (by omega) (by omega) (by omega)⟩
  · rintro ρ S2 ⟨d, o, j, ej, rfl, e2, gd, fd⟩
    refine ⟨trivial, ?_⟩
    simp at ej
    subst hG
    simp [deR2]
    exact ⟨e2, gd, fd.up (by omega) (by omega) (by omega)⟩
end
end Pn

namespace Pn
open PySem PySem.Spec PyProof.Rows L2 Dv
section
variable {m r : Nat} {S T : Sto}
/-- a thing among the ties -/
def EQ (r : Nat) (S : Sto) (x : D) : Prop := FQ r S 120 34 700 x
theorem EQ.ev {x : D} (h : EQ r S x) (e : Ev r S T) : EQ r T x := FQ.ev h e
theorem EQ.of {f k w : Nat} {x : D} (h : FQ r S f k w x) (a : f ≤ 120) (b : k ≤ 34) (c : w ≤ 700) : EQ r S x := h.up a b c
/-- a thing that is asked -/
def spQ (r : Nat) (S : Sto) (d : D) (T : Sto) : Prop := Ev r S T ∧ Gd r T d ∧ FQ r T 200 40 20000 d
theorem ti_eq {n : Int} (n8 : n ≤ 8) {y : D} (h : isTie n y = true) : EQ r S y := by
  match y, h with
  | .tup [.int i, .int j], h =>
    have h := of_decide_eq_true (show decide (0 ≤ i ∧ i < j ∧ j < n) = true from h)
    exact EQ.of (q2 (FQ.small (by omega)) (FQ.small (by omega))).tup (by omega) (by omega) (by omega)
theorem pr_eq {i j : Int} (h1 : i.natAbs < 16) (h2 : j.natAbs < 16) : EQ r S (.tup [.int i, .int j]) := EQ.of (q2 (FQ.small h1) (FQ.small h2)).tup (by omega) (by omega) (by omega)
theorem tup_sp {xs : List D} (h : ∀ x ∈ xs, EQ r T x) (l : xs.length ≤ 20) (e : Ev r S T) : spQ r S (.tup xs) T := ⟨e, Gd.tup (by omega), (FQs.all h l).tup.up (by omega) (by omega) (by omega)⟩
theorem place_ok {F : DenS} {n a b : Int} {ts ws : List D} {o4 o5 o9 o10 o11 o12 : Option D} (hm : 4 ≤ m) (n1 : 1 ≤ n) (n8 : n ≤ 8) (a0 : 0 ≤ a) (a8 : a < 9) (h : Pen S r)
    (K : ∀ x S1, EQ r S1 (.tup [x, x]) → FQ r S1 100 31 400 x → Ev r S S1 → (F (Phi bodies m) [some (.ref r), some (frD n ts), some (.tup ws), some (.int n), o4, o5, some (.int a), some (.int b), some x, o9, o10, o11, o12] S1).wp (FlR (spQ r T) noX) noX) :
    (sSeq (sAsg (.nm 8) (dOp ixD (dLst (dCons (dVar 3) (dCons (dUn negD (dC (.int 1))) (dCons (dC (.bl true)) (dCons (dC (.bl false)) (dCons (dC .non) (dCons (dC (.str "1")) (dCons (dOp powD (dC (.int 10)) (dC (.int 29))) (dCons (dCallF 14 1 (dCons (dVar 0) dNil)) (dCons (dC (.int 0)) (dCons (dOp subD (dVar 3) (dC (.int 1))) (dCons dDk0 (dCons (dLst (dCons (dVar 6) dNil)) dNil))))))))))))) (dCallF 9 2 (dCons (dVar 0) (dCons (dC (.int 12)) dNil))))) F (Phi bodies m) [some (.ref r), some (frD n ts), some (.tup ws), some (.int n), o4, o5, some (.int a), some (.int b), none, o9, o10, o11, o12] S).wp (FlR (spQ r T) noX) noX := by
  have rl := h.lt
  simp [mx, Nat.add_assoc]
  refine R.to (deep_ok (by omega) h) ?_
  rintro d S1 ⟨e1, gd, fd⟩
  have l1 := e1.ln
  simp [Nat.add_assoc]
  refine pick_ok hT (by omega) (e1.pn.app _) (at_ak (k := 2) rfl) (by omega) (by rfl) (by omega) (by omega) fun x hx S2 e2 => ?_
  have k0 := e2.kp S1.length _ (by omega) at_a0
  have k1 := e2.kp (S1.length + 1) _ (by omega) (at_ak (k := 1) rfl)
  have e12 := (Ev.app e1.pn _).trans e2
  have e02 := e1.trans e12
  have fx : FQ r S2 100 31 345 x := by
    simp only [List.mem_cons, List.not_mem_nil, or_false] at hx
    have up : ∀ {d f k w}, FQ r S2 f k w d → f ≤ 100 → k ≤ 31 → w ≤ 345 → FQ r S2 100 31 345 d := fun h a b c => h.up a b c
    rcases hx with rfl | rfl | rfl | rfl | rfl | rfl | rfl | rfl | rfl | rfl | rfl | rfl
    · exact up (FQ.small (by omega)) (by omega) (by omega) (by omega)
    · exact up (FQ.small (by omega)) (by omega) (by omega) (by omega)
    · exact up FQ.bl (by omega) (by omega) (by omega)
    · exact up FQ.bl (by omega) (by omega) (by omega)
    · exact up FQ.non (by omega) (by omega) (by omega)
    · exact up (FQ.str (by decide) (by decide)) (by omega) (by omega) (by omega)
    · exact up (FQ.int (by decide)) (by omega) (by omega) (by omega)
    · exact up (fd.ev e12) (by omega) (by omega) (by omega)
    · exact up (FQ.small (by omega)) (by omega) (by omega) (by omega)
    · exact up (FQ.small (by omega)) (by omega) (by omega) (by omega)
    · exact up (FQ.dk0 (by omega) k0) (by omega) (by omega) (by omega)
    · exact up ((q1 (FQ.small (by omega))).lst (by omega) k1) (by omega) (by omega) (by omega)
  simp
  exact K x S2 (EQ.of (q2 fx fx).tup (by omega) (by omega) (by omega)) (fx.up (by omega) (by omega) (by omega)) e02
theorem odd_ok {F : DenS} {n a b : Int} {x : D} {ts ws : List D} {o4 o5 o11 o12 : Option D} (hm : 4 ≤ m) (a0 : 0 ≤ a) (a8 : a < 9) (b0 : 0 ≤ b) (b8 : b < 9) (h : Pen S r) (fx : FQ r S 100 31 400 x)
    (K : ∀ y o9 S1, EQ r S1 y → Ev r S S1 → (F (Phi bodies m) [some (.ref r), some (frD n ts), some (.tup ws), some (.int n), o4, o5, some (.int a), some (.int b), some x, o9, some y, o11, o12] S1).wp (FlR (spQ r T) noX) noX) :
    (sSeq (sAsg (.nm 9) (dLst (dCons (dTup (dCons (dVar 7) (dCons (dVar 6) dNil))) (dCons (dTup (dCons (dVar 6) (dCons (dVar 8) dNil))) (dCons (dTup (dCons (dVar 8) (dCons (dVar 7) dNil))) (dCons (dLst (dCons (dVar 6) (dCons (dVar 7) dNil))) (dCons (dTup (dCons (dVar 6) dNil)) (dCons (dTup (dCons (dVar 6) (dCons (dVar 7) (dCons (dVar 7) dNil)))) (dCons (dTup (dCons (dVar 7) (dCons (dVar 7) dNil))) dNil)))))))))
     (sSeq (sAsg (.nm 10) (dOp ixD (dOp addD (dVar 9) (dLst (dCons (dC .non) (dCons (dC (.str "01")) (dCons (dTup dNil) (dCons (dC (.int 0)) (dCons dDk0 (dCons (dTup (dCons (dOp gtD (dVar 6) (dC (.int 0))) (dCons (dOp gtD (dVar 7) (dC (.int 0))) dNil))) (dCons (dVar 8) dNil))))))))) (dCallF 9 2 (dCons (dVar 0) (dCons (dC (.int 14)) dNil))))) F) (Phi bodies m) [some (.ref r), some (frD n ts), some (.tup ws), some (.int n), o4, o5, some (.int a), some (.int b), some x, none, none, o11, o12] S).wp (FlR (spQ r T) noX) noX := by
  have rl := h.lt
  simp [mx, Nat.add_assoc]
  refine pick_ok hT (by omega) (h.app _) (at_ak (k := 4) rfl) (by omega) (by rfl) (by omega) (by omega) fun y hy S2 e2 => ?_
  have k0 := e2.kp S.length _ (by omega) at_a0
  have k2 := e2.kp (S.length + 2) _ (by omega) (at_ak (k := 2) rfl)
  have e02 := (Ev.app h _).trans e2
  have fx2 := fx.ev e02
  have ia : FQ r S2 100 31 5 (.int a) := (FQ.small (by omega)).up (by omega) (by omega) (Nat.le_refl _)
  have ib : FQ r S2 100 31 5 (.int b) := (FQ.small (by omega)).up (by omega) (by omega) (Nat.le_refl _)
  have fy : EQ r S2 y := by
    simp only [List.mem_cons, List.not_mem_nil, or_false] at hy
    rcases hy with rfl | rfl | rfl | rfl | rfl | rfl | rfl | rfl | rfl | rfl | rfl | rfl | rfl | rfl
    · exact EQ.of (q2 ib ia).tup (by omega) (by omega) (by omega)
    · exact EQ.of (q2 ia fx2).tup (by omega) (by omega) (by omega)
    · exact EQ.of (q2 fx2 ib).tup (by omega) (by omega) (by omega)
    · exact EQ.of ((q2 ia ib).lst (by omega) k0) (by omega) (by omega) (by omega)
    · exact EQ.of (q1 ia).tup (by omega) (by omega) (by omega)
    · exact EQ.of (q3 ia ib ib).tup (by omega) (by omega) (by omega)
    · exact EQ.of (q2 ib ib).tup (by omega) (by omega) (by omega)
    · exact EQ.of FQ.non (by omega) (by omega) (by omega)
    · exact EQ.of (FQ.str (by decide) (by decide)) (by omega) (by omega) (by omega)
    · exact EQ.of FQs.nil.tup (by omega) (by omega) (by omega)
    · exact EQ.of (FQ.small (by omega)) (by omega) (by omega) (by omega)
    · exact EQ.of (FQ.dk0 (by omega) k2) (by omega) (by omega) (by omega)
    · exact EQ.of (q2 FQ.bl FQ.bl).tup (by omega) (by omega) (by omega)
    · exact EQ.of fx2 (by omega) (by omega) (by omega)
  simp
  exact K y _ S2 fy e02
end
end Pn

namespace Pn
open PySem PySem.Spec PyProof.Rows L2 Dv
section
variable {m r : Nat} {S T : Sto}
theorem dn1_fq {i : Nat} (ir : i ≠ r) (hi : S[i]? = some (.dn [(.tup [.int 0, .int 1], .bl true)])) : FQ r S 20 20 40 (.ref i) := by
  refine ⟨.dict [(.tuple [.int 0, .int 1], .bool true)], fun U eU g hg => ?_, by decide +kernel, by decide +kernel, by decide +kernel, by decide +kernel⟩
  obtain ⟨g, rfl⟩ : ∃ q, g = q + 10 := ⟨g - 10, by omega⟩
  unfold Dv.toF
  rw [eU.kp i _ ir hi]
  rfl
theorem cutE {xs : List D} {lo hi : Option Int} (h : ∀ x ∈ xs, EQ r S x) : ∀ x ∈ cutD xs lo hi, EQ r S x := fun x hx => h x (cut_mem hx)
theorem appE {xs ys : List D} (h : ∀ x ∈ xs, EQ r S x) (h2 : ∀ x ∈ ys, EQ r S x) : ∀ x ∈ xs ++ ys, EQ r S x := fun x hx => (List.mem_append.mp hx).elim (h x) (h2 x)
theorem oneE {y : D} (h : EQ r S y) : ∀ x ∈ [y], EQ r S x := fun x hx => by rw [List.mem_singleton.mp hx]; exact h
def rvD : D → D
  | .tup xs => .tup xs.reverse
  | d => d
theorem spw_ok {n w at_ a b : Int} {ts ws : List D} {x y : D} {o9 : Option D} {V : Sto} (hm : 6 ≤ m) (n8 : n ≤ 8) (ht : ∀ y ∈ ts, isTie n y = true) (hw : ∀ y ∈ ws, isTie n y = true) (l7 : ts.length ≤ 7) (lw : ws.length ≤ 7) (w0 : 0 ≤ w) (w1 : w < 10) (a0 : 0 ≤ a) (a8 : a < 9) (b0 : 0 ≤ b) (b8 : b < 9) (i0 : 0 ≤ at_) (i1 : at_ < (ws.length : Int) + 1) (fy : EQ r V y) (eV : Ev r S V) :
    (spR7 (Phi bodies (m - 1)) [some (.ref r), some (frD n ts), some (.tup ws), some (.int n), some (.int w), some (.int at_), some (.int a), some (.int b), some x, o9, some y, none, none] V).wp (FlR (spQ r S) noX) noX := by
  have rl := eV.pn.lt
  have tk := fun (T : Sto) (n : Int) (hp : Pen T r) (h0 : 0 < n) (h1 : n < 1073741824) => take_ok hT (show 2 ≤ m - 1 by omega) hp h0 h1
  have ew : ∀ U : Sto, ∀ x ∈ ws, EQ r U x := fun U x hx => ti_eq n8 (hw x hx)
  have et : ∀ U : Sto, ∀ x ∈ ts, EQ r U x := fun U x hx => ti_eq n8 (ht x hx)
  have ep : ∀ U : Sto, EQ r U (.tup [.int 0, .int 1]) := fun U => pr_eq (by decide) (by decide)
  have c1 := cut_le (xs := ws) (lo := none) (hi := some at_)
  have c2 := cut_le (xs := ws) (lo := some (at_ + 1)) (hi := none)
  have c3 := cut_le (xs := ws) (lo := some at_) (hi := none)
  unfold spR7
  generalize hG : spR8 = G
  rcases (by omega : w = 0 ∨ w = 1 ∨ w = 2 ∨ w = 3 ∨ w = 4 ∨ w = 5 ∨ w = 6 ∨ (7 ≤ w)) with rfl | rfl | rfl | rfl | rfl | rfl | rfl | w7
  · simp [frD, mx]
    repeat (refine And.intro (by omega : _ ≤ _) ?_)
    refine tup_sp (appE (cutE (ew _)) fun z hz => ?_) ?_ eV
    rotate_left
    · simp; omega
    rcases List.mem_cons.mp hz with rfl | hz
    · exact fy
    · exact cutE (ew _) z hz
  · simp
    subst hG
    unfold spR8
    generalize hG : spR9 = G
    simp [frD, mx]
    repeat (refine And.intro (by omega : _ ≤ _) ?_)
    refine tup_sp (appE (cutE (ew _)) fun z hz => ?_) ?_ eV
    rotate_left
    · simp; omega
    rcases List.mem_cons.mp hz with rfl | hz
    · exact fy
    · exact cutE (ew _) z hz
  · simp
    subst hG
    unfold spR8
    generalize hG : spR9 = G
    simp
    subst hG
    unfold spR9
    generalize hG : spR10 = G
    simp [frD]
    refine R.to (tk V (ws.length + 1) eV.pn (by omega) (by omega)) ?_
    rintro d U ⟨k, rfl, k0, k1, e, lV⟩
    have eU := eV.trans e
    have le := e.ln
    have rlu := eU.pn.lt
    have lu := eU.ln
    simp [mx]
    refine pick_ok hT (by omega) (eU.pn.app _) at_a0 (by omega) (by rfl) (by omega) (by omega) fun z hz W eW => ?_
    have e2 := (eU.app' _).trans eW
    have fz : EQ r W z := by
      simp only [List.mem_cons, List.not_mem_nil, or_false] at hz
      rcases hz with rfl | rfl <;> exact pr_eq (by omega) (by omega)
    have d1 := cut_le (xs := ws) (lo := none) (hi := some k)
    have d2 := cut_le (xs := ws) (lo := some k) (hi := none)
    simp
    repeat (refine And.intro (by omega : _ ≤ _) ?_)
    refine tup_sp (appE (cutE (ew _)) fun z' hz => ?_) ?_ e2
    rotate_left
    · simp; omega
    rcases List.mem_cons.mp hz with rfl | hz
    · exact fz
    · exact cutE (ew _) z' hz
  · simp
    subst hG
    unfold spR8
    generalize hG : spR9 = G
    simp
    subst hG
    unfold spR9
    generalize hG : spR10 = G
    simp
    subst hG
    unfold spR10
    generalize hG : spR11 = G
    simp [frD, mx]
    repeat (refine And.intro (by omega : _ ≤ _) ?_)
    refine tup_sp (appE (cutE (ew _)) (cutE (ew _))) ?_ eV
    simp; omega
  · simp
    subst hG
    unfold spR8
    generalize hG : spR9 = G
    simp
    subst hG
    unfold spR9
    generalize hG : spR10 = G
    simp
    subst hG
    unfold spR10
    generalize hG : spR11 = G
    simp
    subst hG
    unfold spR11
    generalize hG : spR12 = G
    simp [frD, mx, wipeE]
    refine ⟨by omega, ?_⟩
    rw [lc_pure (p := fun _ => true) (g := rvD) (fun acc => trivial) (fun z hz => ?_) (by simp; omega), List.nil_append, List.filter_eq_self.mpr fun _ _ => rfl]
    · simp [mx]
      repeat (refine And.intro (by omega : _ ≤ _) ?_)
      refine tup_sp (appE (fun z hz => ?_) (cutE (ew _))) ?_ (eV.app' _)
      rotate_left
      · simp; omega
      obtain ⟨y, hy, rfl⟩ := List.mem_map.mp hz
      have ty := hw y (cut_mem hy)
      match y, ty with
      | .tup [.int i, .int j], ty =>
        have h := of_decide_eq_true (show decide (0 ≤ i ∧ i < j ∧ j < n) = true from ty)
        exact pr_eq (by omega) (by omega)
    · refine ⟨_, rfl, fun acc => ⟨rfl, fun _ => ?_⟩⟩
      have ty := hw z (cut_mem hz)
      match z, ty with
      | .tup [.int i, .int j], ty => simp; rfl
  · simp
    subst hG
    unfold spR8
    generalize hG : spR9 = G
    simp
    subst hG
    unfold spR9
    generalize hG : spR10 = G
    simp
    subst hG
    unfold spR10
    generalize hG : spR11 = G
    simp
    subst hG
    unfold spR11
    generalize hG : spR12 = G
    simp
    subst hG
    unfold spR12
    generalize hG : spR13 = G
    obtain ⟨nk, t01⟩ : ∃ k, tkD (.tup [.int 0, .int 1]) = some k := ⟨_, rfl⟩
    simp [ev_dn1, t01, Nat.add_assoc]
    refine R.to (deep_ok (m := m - 1) (by omega) (eV.pn.app _)) ?_
    rintro d U ⟨e, gd, fd⟩
    have lv := e.ln
    simp at lv
    have k0 := e.kp V.length _ (by omega) at_a0
    have k1 := e.kp (V.length + 1) _ (by omega) (at_ak (k := 1) rfl)
    simp [mx]
    refine pick_ok hT (by omega) (e.pn.app _) at_a0 (by omega) (by rfl) (by omega) (by omega) fun z hz W eW => ?_
    have eUW := (Ev.app e.pn _).trans eW
    have eVU : Ev r V U := (Ev.app eV.pn _).trans e
    simp
    refine ⟨(eV.trans eVU).trans eUW, ?_⟩
    have up : ∀ {d f k w}, FQ r W f k w d → f ≤ 200 → k ≤ 40 → w ≤ 20000 → FQ r W 200 40 20000 d := fun h a b c => h.up a b c
    simp only [List.mem_cons, List.not_mem_nil, or_false] at hz
    rcases hz with rfl | rfl | rfl | rfl | rfl | rfl | rfl | rfl
    · exact ⟨Gd.non, up FQ.non (by omega) (by omega) (by omega)⟩
    · exact ⟨Gd.bl, up FQ.bl (by omega) (by omega) (by omega)⟩
    · exact ⟨Gd.int, up (FQ.small (by omega)) (by omega) (by omega) (by omega)⟩
    · exact ⟨Gd.str, up (FQ.str (by decide) (by decide)) (by omega) (by omega) (by omega)⟩
    · exact ⟨(Gd.dk (by omega) k0).ev eUW, up ((FQ.dk0 (by omega) k0).ev eUW) (by omega) (by omega) (by omega)⟩
    · exact ⟨(Gd.dn (by omega) k1).ev eUW, up ((dn1_fq (by omega) k1).ev eUW) (by omega) (by omega) (by omega)⟩
    · exact ⟨gd.ev eUW, up (fd.ev eUW) (by omega) (by omega) (by omega)⟩
    · exact ⟨Gd.tup (by simp), up (q1 FQs.nil.tup).tup (by omega) (by omega) (by omega)⟩
  · simp
    subst hG
    unfold spR8
    generalize hG : spR9 = G
    simp
    subst hG
    unfold spR9
    generalize hG : spR10 = G
    simp
    subst hG
    unfold spR10
    generalize hG : spR11 = G
    simp
    subst hG
    unfold spR11
    generalize hG : spR12 = G
    simp
    subst hG
    unfold spR12
    generalize hG : spR13 = G
    simp
    subst hG
    unfold spR13
    generalize hG : spR14 = G
    have d1 := cut_le (xs := ts ++ [D.tup [.int 0, .int 1]]) (lo := none) (hi := some 1)
    simp at d1
    simp [frD, mx]
    repeat (refine And.intro (by omega : _ ≤ _) ?_)
    refine tup_sp (appE (fun z hz => ew _ z (List.mem_reverse.mp hz)) (cutE (appE (et _) (oneE (ep _))))) ?_ eV
    simp; omega
  · have n : ∀ k : Int, k < 7 → (w = k) = False := fun k hk => by
      rw [eq_iff_iff, iff_false]
      omega
    simp [n]
    subst hG
    unfold spR8
    generalize hG : spR9 = G
    simp [n]
    subst hG
    unfold spR9
    generalize hG : spR10 = G
    simp [n]
    subst hG
    unfold spR10
    generalize hG : spR11 = G
    simp [n]
    subst hG
    unfold spR11
    generalize hG : spR12 = G
    simp [n]
    subst hG
    unfold spR12
    generalize hG : spR13 = G
    simp [n]
    subst hG
    unfold spR13
    generalize hG : spR14 = G
    simp [n]
    subst hG
    simp [spR14]
    exact tup_sp (ew _) (by omega) eV
end
end Pn

namespace Pn
open PySem PySem.Spec PyProof.Rows L2 Dv
section
variable {m r : Nat} {S T : Sto}
theorem sp_ok {n : Int} {ts ws : List D} (hm : 6 ≤ m) (n1 : 1 ≤ n) (n8 : n ≤ 8) (ht : ∀ y ∈ ts, isTie n y = true) (hw : ∀ y ∈ ws, isTie n y = true) (l7 : ts.length ≤ 7) (lw : ws.length ≤ 7) (h : Pen S r) : (Phi bodies m 0 15 [.ref r, frD n ts, .tup ws] S).wp (spQ r S) noX := by
  have tk := fun (T : Sto) (n : Int) (hp : Pen T r) (h0 : 0 < n) (h1 : n < 1073741824) => take_ok hT (show 2 ≤ m - 1 by omega) hp h0 h1
  refine wpP (by omega) sp_is ?_
  have ef : ixD (frD n ts) (.int 0) S = .ok (.int n) S := by unfold frD; simp
  unfold spF
  generalize hG : spR1 = G
  simp [ef, -ix_t]
  subst hG
  unfold spR1
  generalize hG : spR2 = G
  simp
  refine R.to (tk S 10 h (by omega) (by omega)) ?_
  rintro d S1 ⟨w, rfl, w0, w1, e1, l1⟩
  simp
  subst hG
  unfold spR2
  generalize hG : spR3 = G
  simp
  refine R.to (tk S1 (ws.length + 1) e1.pn (by omega) (by omega)) ?_
  rintro d S2 ⟨at_, rfl, a0, a1, e2, l2⟩
  have e2 := e1.trans e2
  simp
  subst hG
  unfold spR3
  generalize hG : spR4 = G
  simp
  refine ⟨by omega, ?_⟩
  refine opt_in a0 (by rw [List.length_append]; simp; omega) fun x hx => ?_
  obtain ⟨a, b, rfl, p0, p8, q0, q8⟩ : ∃ a b : Int, x = .tup [.int a, .int b] ∧ 0 ≤ a ∧ a < 9 ∧ 0 ≤ b ∧ b < 9 := by
    rcases List.mem_append.mp hx with hx | hx
    · have q := hw x hx
      match x, q with
      | .tup [.int a, .int b], q =>
        have q := of_decide_eq_true (show decide (0 ≤ a ∧ a < b ∧ b < n) = true from q)
        exact ⟨a, b, rfl, by omega, by omega, by omega, by omega⟩
    · rw [List.mem_singleton.mp hx]
      exact ⟨0, 1, rfl, by omega, by omega, by omega, by omega⟩
  simp
  subst hG
  unfold spR4
  refine place_ok (m := m - 1) (by omega) n1 n8 p0 p8 e2.pn fun x S3 _ fx e3 => ?_
  have e3' := e2.trans e3
  unfold spR5 spR6
  refine odd_ok (m := m - 1) (by omega) p0 p8 q0 q8 e3.pn fx fun y o9 S4 fy e4 => ?_
  exact spw_ok (m := m) hm n8 ht hw l7 lw w0 w1 p0 p8 q0 q8 a0 a1 fy (e3'.trans e4)
end
end Pn

namespace Pn
open PySem PySem.Spec PyProof.Rows L2 Dv
section
variable {m r : Nat} {S T : Sto}
theorem fq_un {f k w : Nat} {xs : List D} (hp : Pen S r) (h : FQ r S f k w (.tup xs)) : FQs r S f k w xs := by
  obtain ⟨p, e, a1, a2, a3, a4⟩ := h
  have e0 := e S (Ev.refl hp) (f + 1) (by omega)
  unfold Dv.toF at e0
  obtain ⟨ps, e1, rfl⟩ := Option.map_eq_some_iff.mp e0
  refine ⟨ps, fun U eU g hg => ?_, by simpa [PyData.showable] using a1, by simpa [PyData.leavesShort] using a2, by simpa [PyData.weight] using a3, by simp [PyData.depth] at a4; omega⟩
  have z := e U eU (g + 1) (by omega)
  unfold Dv.toF at z
  obtain ⟨qs, z1, z2⟩ := Option.map_eq_some_iff.mp z
  cases z2
  exact z1
theorem rep2 {f k w1 w2 : Nat} {a b : D} (ha : FQ r S f k w1 a) (hb : FQ r S f k w2 b) (h1 : f + 3 ≤ 1000) (h2 : k + 1 ≤ 60) (h3 : w1 + w2 + 2 ≤ 100000) : ∃ x : Str, ∀ T, Ev r S T → reprF [.ref T.length] (T ++ [.lst true [a, b]]) = .ok (.str x) (T ++ [.lst true [a, b]]) := by
  obtain ⟨ps, e, b1, b2, b3, b4⟩ := q2 ha hb
  refine ⟨(PyData.list ps).shown, fun T eT => ?_⟩
  have z : Dv.toF (T ++ [.lst true [a, b]]) 1000 (.ref T.length) = some (.list ps) := by
    unfold Dv.toF
    rw [show (T ++ [O.lst true [a, b]])[T.length]? = some (O.lst true [a, b]) from at_a0]
    simp only
    rw [e _ (eT.app' _) 999 (by omega)]
    rfl
  show (match Dv.toF (T ++ [O.lst true [a, b]]) 1000 (.ref T.length) with
    | some p => if fitQ p = true then R.ok (D.str p.shown) (T ++ [O.lst true [a, b]]) else R.no
    | none => R.no) = _
  rw [z]
  exact if_pos (fitQ_of (by simpa [PyData.showable] using b1) (by simpa [PyData.leavesShort] using b2) (by simp only [PyData.weight]; omega) (by simp only [PyData.depth]; omega))
theorem fr_fq {n : Int} {ts : List D} (Fr : Fm4 n ts) : FQ r S 210 41 20100 (frD n ts) := by
  have n1 := Fr.n1
  have n8 := Fr.n8
  exact (q2 (f := 200) (k := 38) (w1 := 5) (w2 := 10000) ((FQ.small (by omega)).up (by omega) (by omega) (Nat.le_refl _)) ((FQs.all (n := 7) (fun x hx => ti_eq Fr.n8 (Fr.ti x hx)) Fr.l7).tup.up (by omega) (by omega) (by omega))).tup.up (by omega) (by omega) (by omega)
theorem seq_ev {d : D} (h : Gd r S d) (e : Ev r S T) : seqL d T = seqL d S := by
  cases d with
  | ref i =>
    obtain ⟨h1, o, h2, _⟩ := h.1 i rfl
    unfold seqL
    dsimp only
    rw [e.kp i o (by omega) h2, h2]
  | _ => rfl
theorem res_ev {ts : List D} {d : D} (h : Gd r S d) (e : Ev r S T) : resF ts d T = resF ts d S := by
  unfold resF
  rw [seq_ev h e]
theorem kd_t {i : Nat} : isK (kdOf (.ref i) S) .tup = false := by
  unfold kdOf
  dsimp only
  cases S[i]? with
  | none => rfl
  | some o => cases o <;> rfl
/-- what a turn of the law leaves as it was -/
structure Lo (r : Nat) (S T : Sto) : Prop where
  pn : Pen T r
  ln : S.length ≤ T.length
  kp : ∀ j o, j < r → S[j]? = some o → T[j]? = some o
theorem Lo.of (e : Ev r S T) : Lo r S T := ⟨e.pn, e.ln, fun j o h => e.kp j o (by omega)⟩
theorem Lo.trans {U : Sto} (a : Lo r S T) (b : Lo r T U) : Lo r S U := ⟨b.pn, Nat.le_trans a.ln b.ln, fun j o h e => b.kp j o h (a.kp j o h e)⟩
def rQ (r : Nat) (S : Sto) (d : D) (T : Sto) : Prop := d = .bl true ∧ Lo r S T
theorem rr_ok {n : Int} {ts : List D} (Fr : Fm4 n ts) (hm : 14 ≤ m) {d : D} (gd : Gd r S d) (fd : FQ r S 210 41 20100 d) (hp : Pen S r) :
    (riR1 (Phi bodies m) [some (.ref r), some (frD n ts), some d, none, none, none, none, none, none] S).wp (FlR (rQ r S) noX) noX := by
  have rl := hp.lt
  have l7 := Fr.l7
  obtain ⟨tx, htx⟩ := rep2 (fr_fq Fr) fd (by omega) (by omega) (by omega)
  unfold riR1
  generalize hG : riR2 = G
  simp
  refine R.to (du_ok Fr (m := m) (by omega) gd.sure gd.sq) ?_
  rintro t S2 ⟨g2, ht⟩
  have e2 := g2.ev hp
  have l2 := e2.ln
  simp
  subst hG
  unfold riR2
  generalize hG : riR3 = G
  simp [htx S2 e2]
  subst hG
  unfold riR3
  generalize hG : riR4 = G
  have e3 := e2.app' [O.lst true [frD n ts, d]]
  have w3 := web_e (S := S2 ++ [O.lst true [frD n ts, d]]) (m := m) Fr (by omega) d fun xs h => by have := gd.2 xs h; omega
  simp [w3]
  subst hG
  unfold riR4
  generalize hG : riR5 = G
  have hno : resF ts d S = none → t = .non := fun e => by rw [e] at ht; exact ht
  have hso : ∀ l, resF ts d S = some l → ∃ i, t = .ref i ∧ S.length ≤ i ∧ S2[i]? = some (.lst true l) := fun l e => by rw [e] at ht; exact ht
  -- the rest, once it is known what is due
  have rest : ∀ U, Ev r S U → (∀ i l, t = .ref i → resF ts d S = some l → S.length ≤ i ∧ U[i]? = some (.lst true l)) → (G (Phi bodies m) [some (.ref r), some (frD n ts), some d, some t, some (.str tx), some (.bl (webB n ts d)), some (.bl (webB n ts d)), none, none] U).wp (FlR (rQ r S) noX) noX := by
    intro U eU ht
    have lU := eU.ln
    subst hG
    unfold riR5
    generalize hG : riR6 = G
    have ne : neD (.bl (webB n ts d)) (.bl (webB n ts d)) U = .ok (.bl false) U := by cases webB n ts d <;> rfl
    simp [ne]
    subst hG
    unfold riR6
    generalize hG : riR7 = G
    simp
    refine R.to (take_ok hT (by omega) eU.pn (n := 2) (by omega) (by omega)) ?_
    rintro k U2 ⟨k, rfl, k0, k1, e, _⟩
    have e2U := eU.trans e
    have gU := gd.ev e2U
    simp
    refine R.to (to_ok Fr (m := m) (by omega) gU.sure gU.sq) ?_
    rintro q U3 ⟨rfl, g3⟩
    rw [res_ev gd e2U]
    have e3' := g3.ev e2U.pn
    have eU3 := e2U.trans e3'
    have eUU3 := e.trans e3'
    have lU3 := eUU3.ln
    cases er : resF ts d S with
    | none =>
      obtain rfl := hno er
      simp [toD, tg_tp2]
      subst hG
      unfold riR7
      generalize hG : riR8 = G
      have ns : neD (.str tx) (.str tx) (U3 ++ [O.lst true [frD n ts, d]]) = .ok (.bl false) (U3 ++ [O.lst true [frD n ts, d]]) := by simp
      simp [htx U3 eU3]
      subst hG
      unfold riR8
      simp [noB]
      exact ⟨rfl, Lo.of (eU3.app' _)⟩
    | some l =>
      obtain ⟨i, rfl, i1, hi2⟩ := hso l er
      obtain ⟨_, hi⟩ := ht i l rfl er
      have h3 := eUU3.kp i _ (by omega) hi
      have h4 : ∀ V : Sto, (U3 ++ V)[i]? = some (.lst true l) := fun V => by rw [List.getElem?_append_left (List.getElem?_eq_some_iff.mp h3).1]; exact h3
      obtain ⟨xs, el, ax, nd, lx⟩ : ∃ xs : List D, l = xs.map normD ∧ xs.all (okT ts) = true ∧ (xs.map normD).Nodup ∧ xs.length ≤ 64 := by
        unfold resF at er
        split at er
        · rename_i xs es
          obtain ⟨z1, z2, z3⟩ := resL_some er
          exact ⟨xs, z1, z2, z3, gd.sq xs es⟩
        · cases er
      have pl : AllPr l := by rw [el]; exact norm_all
      have ll : l.length = xs.length := by rw [el, List.length_map]
      have lp := (isort_perm (lt := ltK) l).length_eq
      have pil : AllPr (isort ltK l) := fun y hy => pl y ((isort_perm l).mem_iff.mp hy)
      have wt : webB n ts (.tup (isort ltK l)) = true := by
        have z := wb_res Fr (xs := xs) (List.all_eq_true.mpr fun x hx => okT_pa Fr (List.all_eq_true.mp ax x hx))
        rw [resL_good ⟨ax, nd⟩] at z
        rw [el]
        exact z
      simp [toD, tg_tp2]
      subst hG
      unfold riR7
      generalize hG : riR8 = G
      simp [htx U3 eU3]
      subst hG
      unfold riR8
      generalize hG : riR9 = G
      simp [noB]
      subst hG
      unfold riR9
      generalize hG : riR10 = G
      have fin : ∀ V : Sto, Lo r S V → V[i]? = some (.lst true l) → (G (Phi bodies m) [some (.ref r), some (frD n ts), some d, some (.ref i), some (.str tx), some (.bl (webB n ts d)), some (.bl (webB n ts d)), some (.str "made"), some (.tup (isort ltK l))] V).wp (FlR (rQ r S) noX) noX := fun V lo hV => by
        subst hG
        unfold riR10
        generalize hG : riR11 = G
        have nt : ∀ W : Sto, neD (.tup (isort ltK l)) (.tup (isort ltK l)) W = .ok (.bl false) W := fun W => ne_tups pil (by omega)
        simp [hV, mx, nt]
        refine ⟨⟨pl, by omega⟩, by omega, ?_⟩
        subst hG
        have w := web_e (S := V ++ [O.lst true (isort ltK l)]) (m := m) Fr (by omega) (.tup (isort ltK l)) fun ys h => by cases h; omega
        simp [riR11, w, wt]
        exact ⟨rfl, lo.trans (Lo.of (Ev.app lo.pn _))⟩
      have eU4 := eU3.app' [O.lst true [frD n ts, d]]
      cases hk : isK (kdOf d (U3 ++ [O.lst true [frD n ts, d]])) .lst with
      | false =>
        simp [hk]
        exact fin _ (Lo.of eU4) (h4 _)
      | true =>
        simp [hk]
        cases d with
        | ref j =>
          obtain ⟨j1, o, j2, j3⟩ := gd.1 j rfl
          have j4 := eU4.kp j o (by omega) j2
          rw [kd_lr, j4] at hk
          obtain ⟨zs, rfl, lz⟩ := j3 hk
          have jl := (List.getElem?_eq_some_iff.mp j2).1
          have ji : j ≠ i := by omega
          simp [j4, mx]
          refine ⟨by omega, fin _ ⟨?_, ?_, fun j' o' h1 h2 => ?_⟩ ?_⟩
          · obtain ⟨pa, pb, pz, hp4⟩ := eU4.pn
            exact ⟨pa, pb, pz, by rw [List.getElem?_set_ne (by omega)]; exact hp4⟩
          · have := eU4.ln
            simp at this ⊢
            exact this
          · rw [List.getElem?_set_ne (by omega)]
            exact eU4.kp j' o' (by omega) h2
          · rw [List.getElem?_set_ne ji]
            exact h4 _
        | _ => cases hk
  have l3 := e3.ln
  have flat : isK (kdOf d (S2 ++ [O.lst true [frD n ts, d]])) .tup = false → webB n ts d = false → ((sSeq (sAsg (.nm 6) (dAndV (dIsi .tup (dVar 2)) (dAndV (dOp isnD (dVar 3) (dC .non)) (dOp eqD (dCl listD (dCons (dVar 2) dNil)) (dCl sortedD (dCons (dVar 3) dNil)))))) G) (Phi bodies m) [some (.ref r), some (frD n ts), some d, some t, some (.str tx), some (.bl (webB n ts d)), none, none, none] (S2 ++ [O.lst true [frD n ts, d]])).wp (FlR (rQ r S) noX) noX := fun h1 h2 => by
    have z := rest _ e3 fun i l h3 h4 => by
      obtain ⟨j, h5, h6, h7⟩ := hso l h4
      rw [h3] at h5
      cases h5
      exact ⟨h6, by rw [List.getElem?_append_left (List.getElem?_eq_some_iff.mp h7).1]; exact h7⟩
    rw [h2] at z ⊢
    simp [h1]
    exact z
  cases d with
  | tup xs =>
    have lx := gd.2 xs rfl
    have erL : resF ts (.tup xs) S = resL ts xs := rfl
    cases er : resL ts xs with
    | none =>
      have := hno (erL.trans er)
      subst this
      have wf : webB n ts (.tup xs) = false := Bool.eq_false_iff.mpr fun h => by
        obtain ⟨l, h1, _⟩ := (wb_is Fr).mp h
        rw [er] at h1
        cases h1
      have z := rest _ e3 fun i l h3 h4 => nomatch h3
      rw [wf] at z ⊢
      simp [noB]
      exact z
    | some l =>
      obtain ⟨i, rfl, i1, hi⟩ := hso l (erL.trans er)
      obtain ⟨el, ax, nd⟩ := resL_some er
      have px : AllPr xs := fun y hy => ((okT_iff Fr).mp (List.all_eq_true.mp ax y hy)).1
      have pl : AllPr l := by rw [el]; exact norm_all
      have ll : l.length = xs.length := by rw [el, List.length_map]
      have lp := (isort_perm (lt := ltK) l).length_eq
      have pil : AllPr (isort ltK l) := fun y hy => pl y ((isort_perm l).mem_iff.mp hy)
      have hia : ∀ V : Sto, (S2 ++ V)[i]? = some (.lst true l) := fun V => by rw [List.getElem?_append_left (List.getElem?_eq_some_iff.mp hi).1]; exact hi
      have we : webB n ts (.tup xs) = decide (xs.map keyD = (isort ltK l).map keyD) := by
        rw [Bool.eq_iff_iff, decide_eq_true_iff]
        constructor
        · intro h
          obtain ⟨l', h1, h2⟩ := (wb_is Fr).mp h
          rw [er] at h1
          cases h1
          rw [← h2]
        · intro h
          exact (wb_is Fr).mpr ⟨l, er, key_inj px pil h⟩
      have eq : ∀ V : Sto, V[S2.length + 1]? = some (.lst true xs) → V[S2.length + 2]? = some (.lst true (isort ltK l)) → eqD (.ref (S2.length + 1)) (.ref (S2.length + 2)) V = .ok (.bl (webB n ts (.tup xs))) V := fun V h1 h2 => by
        rw [we]
        exact eq_lsts px pil (by omega) (by omega) h1 h2
      simp [mx, hia, noB]
      refine ⟨by omega, ⟨pl, by omega⟩, ?_⟩
      rw [eq _ (at_ak (k := 1) rfl) (at_ak (k := 2) rfl)]
      simp
      exact rest _ (e2.app' _) fun j l' h3 h4 => by
        cases h3
        rw [erL, er] at h4
        cases h4
        exact ⟨i1, hia _⟩
  | ref i => exact flat kd_t rfl
  | _ => exact flat rfl rfl
end
end Pn

namespace Pn
open PySem PySem.Spec PyProof.Rows L2 Dv
section
variable {m r : Nat} {S T : Sto}
theorem ri_ok {n : Int} {ts : List D} (Fr : Fm4 n ts) (hm : 16 ≤ m) {d : D} (gd : Gd r S d) (fd : FQ r S 200 40 20000 d) (hp : Pen S r) : (Phi bodies m 0 16 [.ref r, frD n ts, d] S).wp (rQ r S) noX := by
  have rl := hp.lt
  refine wpP (by omega) ri_is ?_
  unfold riF
  generalize hG : riR1 = G
  have fin : ∀ (d2 : D) (U : Sto), Ev r S U → Gd r U d2 → FQ r U 210 41 20100 d2 → (G (Phi bodies (m - 1)) [some (.ref r), some (frD n ts), some d2, none, none, none, none, none, none] U).wp (FlR (rQ r S) noX) noX := fun d2 U e g f => by
    subst hG
    refine R.wp_mono (rr_ok (m := m - 1) Fr (by omega) g f e.pn) (fun x V h => ?_) fun _ _ h => h
    cases x <;> first | exact ⟨h.1, (Lo.of e).trans h.2⟩ | exact h
  cases hk : isK (kdOf d S) .tup with
  | false =>
    simp [hk]
    exact fin d S (Ev.refl hp) gd (fd.up (by omega) (by omega) (by omega))
  | true =>
    obtain ⟨xs, rfl⟩ : ∃ xs, d = .tup xs := by
      cases d with
      | tup xs => exact ⟨xs, rfl⟩
      | ref i => rw [kd_t] at hk; cases hk
      | _ => cases hk
    have lx := gd.2 xs rfl
    simp
    refine R.to (take_ok hT (by omega) hp (n := 2) (by omega) (by omega)) ?_
    rintro k U ⟨k, rfl, k0, k1, e, lU⟩
    have rlu := e.pn.lt
    simp [mx]
    refine ⟨fun h => ⟨by omega, ?_⟩, fun h => fin _ U e (gd.ev e) ((fd.ev e).up (by omega) (by omega) (by omega))⟩
    have f0 := fq_un e.pn (fd.ev e)
    have f1 : FQs r (U ++ [O.lst true xs]) 200 40 20000 xs := by
      obtain ⟨ps, z1, z2⟩ := f0
      exact ⟨ps, fun W eW => z1 W ((Ev.app e.pn _).trans eW), z2⟩
    exact fin _ _ (e.app' _) (Gd.lst (by omega) at_a0 (by omega)) ((FQs.lst (by omega) at_a0 f1).up (by omega) (by omega) (by omega))
def yes (d : D) (_ : Sto) : Prop := d = .bl true
def lE (k : D) (n : Int) (ts ws : List D) (o5 : Option D) (P : Nat) : Dv.Env := [some (.ref 0), some k, some (.ref P), some (frD n ts), some (.tup ws), o5, none]
def inJ (S0 : Sto) (k : D) (n : Int) (ts ws : List D) (P : Nat) (_ : List D) (ρ : Dv.Env) (T : Sto) : Prop := ∃ o5, ρ = lE k n ts ws o5 P ∧ Lo P S0 T
theorem lB_ok {F : DenS} (hF : F = lB1B1) (hm : 20 ≤ m) {k : D} {n : Int} {ts ws : List D} {P : Nat} (Fr : Fm4 n ts) (hw : ∀ y ∈ ws, isTie n y = true) (lw : ws.length ≤ 7) {x : D} {xs : List D} {ρ : Dv.Env} {V : Sto} (I : inJ S k n ts ws P (x :: xs) ρ V) {Q : Fl → Sto → Prop} :
    ∃ ρ1, tgD (.nm 5) x ρ = some ρ1 ∧ (F (Phi bodies m) ρ1 V).wp (forQ (inJ S k n ts ws P xs) Q) noX := by
  obtain ⟨o5, rfl, lo⟩ := I
  subst hF
  refine ⟨lE k n ts ws (some x) P, rfl, ?_⟩
  unfold lB1B1
  simp [lE]
  refine R.to (sp_ok (m := m) (by omega) Fr.n1 Fr.n8 Fr.ti hw Fr.l7 lw lo.pn) ?_
  rintro d V1 ⟨e1, gd, fd⟩
  have lo1 := lo.trans (Lo.of e1)
  simp
  refine R.to (ri_ok (m := m) Fr (by omega) gd fd lo1.pn) ?_
  rintro d2 V2 ⟨rfl, l2⟩
  have lo2 := lo1.trans l2
  obtain ⟨_, g2, f2⟩ := tup_sp (fun y hy => ti_eq Fr.n8 (hw y hy)) (by omega) (Ev.refl lo2.pn)
  simp
  refine R.to (ri_ok (m := m) Fr (by omega) g2 f2 lo2.pn) ?_
  rintro d3 V3 ⟨rfl, l3⟩
  simp
  exact ⟨some x, rfl, lo2.trans l3⟩
def paJ (S0 : Sto) (n : Int) (ts : List D) (L P : Nat) (xs : List D) (T : Sto) : Prop := ∃ gs dn, ts = dn ++ xs ∧ T[L]? = some (.lst true gs) ∧ (∀ y ∈ gs, y ∈ ts) ∧ gs.length ≤ dn.length ∧ Ev P S0 T
def paQ (S0 : Sto) (n : Int) (ts : List D) (P : Nat) (d : D) (T : Sto) : Prop := ∃ L gs, d = .ref L ∧ T[L]? = some (.lst true gs) ∧ (∀ y ∈ gs, y ∈ ts) ∧ gs.length ≤ ts.length ∧ Ev P S0 T
def lI (w : Bool) (ns : List Int) (xs : List D) (ρ : Dv.Env) (S : Sto) : Prop := ∃ o1 o2 o3 o4 o5, ρ = [some (.ref 0), o1, o2, o3, o4, o5, none] ∧ S[0]? = some (.lst w (ns.map D.int)) ∧ ∀ x ∈ xs, ∃ k : Int, x = .int k ∧ 0 ≤ k ∧ k < 1000
theorem law_data (b : Bool) (ns : List Int) (h : ns.length ≤ 63) (hb : ∀ z ∈ ns, PySem.Builtin.Int.intBits z ≤ 1048576) : ∃ S', Phi bodies 65 0 17 [.ref 0] [.lst b (ns.map D.int)] = .ok (.bl true) S' := by
  suffices h : (Phi bodies 65 0 17 [.ref 0] [.lst b (ns.map D.int)]).wp yes noX by
    obtain ⟨a, S', e, rfl⟩ := R.wp_get h
    exact ⟨S', e⟩
  refine wpP (by omega) l_is ?_
  unfold lF
  generalize hG : lR1 = G
  generalize hB : lB1 = B
  simp
  refine for_inv (lI b ns) ?_ ?_ _ _ _ ⟨_, _, _, _, _, rfl, by simp, fun x hx => ?_⟩
  · rintro x xs ρ S ⟨o1, o2, o3, o4, o5, rfl, h0, hx⟩
    obtain ⟨k, rfl, k0, k1⟩ := hx x List.mem_cons_self
    refine ⟨trivial, _, rfl, ?_⟩
    subst hB
    unfold lB1
    generalize hB : lB1R1 = B
    simp
    refine R.to (pen_ok (bs := bodies) (iN := 8) hN (by omega) h0 h k0 k1) ?_
    rintro d S1 ⟨rfl, pa, pb, pz, rfl⟩
    have lz : 0 < S.length := (List.getElem?_eq_some_iff.mp h0).1
    have hp : Pen (S ++ [.lst true [.int pa, .int pb]]) S.length := ⟨pa, pb, pz, by simp⟩
    have hp0 : (S ++ [.lst true [.int pa, .int pb]])[0]? = some (.lst b (ns.map D.int)) := by rw [List.getElem?_append_left lz]; exact h0
    simp
    subst hB
    unfold lB1R1
    generalize hB : lB1R2 = B
    simp
    refine R.to (frame_ok2 (bs := bodies) (iF := 10) (iT := 9) hT Pn.hG (by omega) hp) ?_
    rintro fr S2 ⟨n, ts, rfl, n1, n8, st, ti, tl, e2⟩
    have Fr : Fm4 n ts := ⟨n1, n8, st, ti, tl⟩
    have s20 : S2[0]? = some (.lst b (ns.map D.int)) := e2.kp 0 _ (by omega) hp0
    have l2 := e2.ln
    simp at l2
    simp
    subst hB
    unfold lB1R2
    generalize hB : lB1R3 = B
    simp [wipeE]
    refine R.to (lc_inv (Q := paQ S2 n ts S.length) (paJ S2 n ts S2.length S.length) ?_ ?_ _ _ ⟨[], [], rfl, at_a0, (fun y hy => by cases hy), Nat.le_refl _, Ev.app e2.pn _⟩) ?_
    · rintro y ys T ⟨gs, dn, eg, hL, ag, lg, ev⟩
      refine ⟨trivial, _, rfl, ?_⟩
      have lev := ev.ln
      have ld : dn.length + ys.length + 1 = ts.length := by rw [eg]; simp; omega
      simp
      refine R.to (take_ok hT (by omega) ev.pn (n := 3) (by omega) (by omega)) ?_
      rintro j U ⟨j, rfl, j0, j1, eU, _⟩
      have hL2 := eU.kp S2.length _ (by omega) hL
      simp [lcQ1]
      refine ⟨fun hj => ?_, fun hj => ?_⟩
      · refine ⟨gs, hL2, mx_small (by omega), gs ++ [y], dn ++ [y], by rw [eg]; simp, List.getElem?_set_self (List.getElem?_eq_some_iff.mp hL2).1, fun z hz => ?_, by simp; exact lg, (ev.trans eU).put (by omega) (Nat.le_refl _)⟩
        rcases List.mem_append.mp hz with hz | hz
        · exact ag z hz
        · rw [List.mem_singleton.mp hz, eg]
          simp
      · exact ⟨gs, dn ++ [y], by rw [eg]; simp, hL2, ag, by simp; omega, ev.trans eU⟩
    · rintro T ⟨gs, dn, eg, hL, ag, lg, ev⟩
      rw [List.append_nil] at eg
      exact ⟨trivial, _, gs, rfl, hL, ag, by rw [eg]; exact lg, ev⟩
    · rintro d S3 ⟨L, gs, rfl, hL, ag, lg, e3⟩
      have e23 : Ev S.length (S ++ [.lst true [.int pa, .int pb]]) S3 := e2.trans e3
      have s30 := e3.kp 0 _ (by omega) s20
      simp [hL, mx]
      refine ⟨by omega, ?_⟩
      subst hB
      unfold lB1R3
      generalize hB : lB1B1 = B
      simp
      refine for_inv (inJ S3 (.int k) n ts gs S.length) ?_ ?_ _ _ _ ⟨_, rfl, Lo.of (Ev.refl e3.pn)⟩
      · intro y ys ρ V I
        exact ⟨trivial, lB_ok (m := 64) hB.symm (by omega) Fr (fun y hy => ti y (ag y hy)) (by omega) I⟩
      · rintro ρ V ⟨o5, rfl, lo⟩
        exact ⟨trivial, _, _, _, _, _, rfl, lo.kp 0 _ (by omega) s30, fun z hz => hx z (List.mem_cons_of_mem _ hz)⟩
  · rintro ρ S ⟨o1, o2, o3, o4, o5, rfl, h0, hx⟩
    refine ⟨trivial, ?_⟩
    subst hG
    simp [lR1, yes]
  · obtain ⟨k, hk, e⟩ := rng_mem hx
    exact ⟨_, e, by omega, by omega⟩
end
end Pn

namespace Pn
open PySem PySem.Spec PyProof.Rows L2 Dv
theorem all_mk {w : World} {K : PySem.W.Frag} {h : Heap} {mg : Str → Option Value} {fa : Addr} (X : K.In h) (G : h.Ns mainGlobals mg) (hfa : mg "law" = some (.ref fa)) (TA : TabsAt K mg h ["is_rising", "sorted_ties", "is_web"])
    {f0 f1 f2 f3 f4 f5 f6 f7 f8 f9 f10 f11 f12 f13 f14 f15 f16 f17 : Addr} {od0 an0 od1 an1 od2 an2 od3 an3 od4 an4 od5 an5 od6 an6 od7 an7 od8 an8 od9 an9 od10 an10 od11 an11 od12 an12 od13 an13 od14 an14 od15 an15 od16 an16 od17 an17 : Option Addr} {sl0 sl1 sl2 sl3 sl4 sl5 sl6 sl7 sl8 sl9 sl10 sl11 sl12 sl13 sl14 sl15 sl16 sl17 : Array (Option Value)} {oc0 kV0 dc0 pm0 ct0 oc1 kV1 dc1 pm1 ct1 oc2 kV2 dc2 pm2 ct2 oc3 kV3 dc3 pm3 ct3 oc4 kV4 dc4 pm4 ct4 oc5 kV5 dc5 pm5 ct5 oc6 kV6 dc6 pm6 ct6 oc7 kV7 dc7 pm7 ct7 oc8 kV8 dc8 pm8 ct8 oc9 kV9 dc9 pm9 ct9 oc10 kV10 dc10 pm10 ct10 oc11 kV11 dc11 pm11 ct11 oc12 kV12 dc12 pm12 ct12 oc13 kV13 dc13 pm13 ct13 oc14 kV14 dc14 pm14 ct14 oc15 kV15 dc15 pm15 ct15 oc16 kV16 dc16 pm16 ct16 oc17 kV17 dc17 pm17 ct17 : Value}
    {cd0 cd1 cd2 cd5 cd7 cd8 cd9 cd10 cd11 cd12 cd13 cd14 cd15 cd16 cd17 : Value}
    {c3 t3 c4 t4 c6 t6 : Addr} {ec3 ec4 ec6 : Value} {ed3 ed4 ed6 : Option Addr} {ev3 ev4 ev6 : Array Value} {es3 es4 es6 : Array (Option Value)}
    (a0 : PySem.W.nsIn K mainGlobals "is_whole" = some (some (.ref f0))) (l0 : K.lookup f0 = some ⟨oc0, od0, .func (PySem.W.fnOf "is_whole" "is_whole" (defArgs st_0) (defBody st_0) (defScope st_0) .none kV0 dc0 pm0 an0 cd0 ct0), sl0⟩) (e0 : PySem.W.codeIn K cd0 "is_whole" = true) (k0 : PySem.W.keepIn K (.ref f0) = true)
    (a1 : PySem.W.nsIn K mainGlobals "is_place" = some (some (.ref f1))) (l1 : K.lookup f1 = some ⟨oc1, od1, .func (PySem.W.fnOf "is_place" "is_place" (defArgs st_1) (defBody st_1) (defScope st_1) .none kV1 dc1 pm1 an1 cd1 ct1), sl1⟩) (e1 : PySem.W.codeIn K cd1 "is_place" = true) (k1 : PySem.W.keepIn K (.ref f1) = true)
    (a2 : PySem.W.nsIn K mainGlobals "is_pair" = some (some (.ref f2))) (l2 : K.lookup f2 = some ⟨oc2, od2, .func (PySem.W.fnOf "is_pair" "is_pair" (defArgs st_2) (defBody st_2) (defScope st_2) .none kV2 dc2 pm2 an2 cd2 ct2), sl2⟩) (e2 : PySem.W.codeIn K cd2 "is_pair" = true) (k2 : PySem.W.keepIn K (.ref f2) = true)
    (a3 : PySem.W.nsIn K mainGlobals "is_rising" = some (some (.ref f3))) (l3 : K.lookup f3 = some ⟨oc3, od3, .func (PySem.W.fnOf "is_rising" "is_rising" (defArgs st_3) (defBody st_3) (defScope st_3) .none kV3 dc3 pm3 an3 (.ref c3) ct3), sl3⟩) (e3 : PySem.W.codeIn K (.ref c3) "is_rising" = true) (k3 : PySem.W.keepIn K (.ref f3) = true)
    (a4 : PySem.W.nsIn K mainGlobals "sorted_ties" = some (some (.ref f4))) (l4 : K.lookup f4 = some ⟨oc4, od4, .func (PySem.W.fnOf "sorted_ties" "sorted_ties" (defArgs st_4) (defBody st_4) (defScope st_4) .none kV4 dc4 pm4 an4 (.ref c4) ct4), sl4⟩) (e4 : PySem.W.codeIn K (.ref c4) "sorted_ties" = true) (k4 : PySem.W.keepIn K (.ref f4) = true)
    (a5 : PySem.W.nsIn K mainGlobals "is_tie" = some (some (.ref f5))) (l5 : K.lookup f5 = some ⟨oc5, od5, .func (PySem.W.fnOf "is_tie" "is_tie" (defArgs st_5) (defBody st_5) (defScope st_5) .none kV5 dc5 pm5 an5 cd5 ct5), sl5⟩) (e5 : PySem.W.codeIn K cd5 "is_tie" = true) (k5 : PySem.W.keepIn K (.ref f5) = true)
    (a6 : PySem.W.nsIn K mainGlobals "is_web" = some (some (.ref f6))) (l6 : K.lookup f6 = some ⟨oc6, od6, .func (PySem.W.fnOf "is_web" "is_web" (defArgs st_6) (defBody st_6) (defScope st_6) .none kV6 dc6 pm6 an6 (.ref c6) ct6), sl6⟩) (e6 : PySem.W.codeIn K (.ref c6) "is_web" = true) (k6 : PySem.W.keepIn K (.ref f6) = true)
    (a7 : PySem.W.nsIn K mainGlobals "web_of" = some (some (.ref f7))) (l7 : K.lookup f7 = some ⟨oc7, od7, .func (PySem.W.fnOf "web_of" "web_of" (defArgs st_7) (defBody st_7) (defScope st_7) .none kV7 dc7 pm7 an7 cd7 ct7), sl7⟩) (e7 : PySem.W.codeIn K cd7 "web_of" = true) (k7 : PySem.W.keepIn K (.ref f7) = true)
    (a8 : PySem.W.nsIn K mainGlobals "_law_pen" = some (some (.ref f8))) (l8 : K.lookup f8 = some ⟨oc8, od8, .func (PySem.W.fnOf "_law_pen" "_law_pen" (defArgs st_8) (defBody st_8) (defScope st_8) .none kV8 dc8 pm8 an8 cd8 ct8), sl8⟩) (e8 : PySem.W.codeIn K cd8 "_law_pen" = true) (k8 : PySem.W.keepIn K (.ref f8) = true)
    (a9 : PySem.W.nsIn K mainGlobals "_law_take" = some (some (.ref f9))) (l9 : K.lookup f9 = some ⟨oc9, od9, .func (PySem.W.fnOf "_law_take" "_law_take" (defArgs st_9) (defBody st_9) (defScope st_9) .none kV9 dc9 pm9 an9 cd9 ct9), sl9⟩) (e9 : PySem.W.codeIn K cd9 "_law_take" = true) (k9 : PySem.W.keepIn K (.ref f9) = true)
    (a10 : PySem.W.nsIn K mainGlobals "_law_frame" = some (some (.ref f10))) (l10 : K.lookup f10 = some ⟨oc10, od10, .func (PySem.W.fnOf "_law_frame" "_law_frame" (defArgs st_10) (defBody st_10) (defScope st_10) .none kV10 dc10 pm10 an10 cd10 ct10), sl10⟩) (e10 : PySem.W.codeIn K cd10 "_law_frame" = true) (k10 : PySem.W.keepIn K (.ref f10) = true)
    (a11 : PySem.W.nsIn K mainGlobals "_law_whole" = some (some (.ref f11))) (l11 : K.lookup f11 = some ⟨oc11, od11, .func (PySem.W.fnOf "_law_whole" "_law_whole" (defArgs st_11) (defBody st_11) (defScope st_11) .none kV11 dc11 pm11 an11 cd11 ct11), sl11⟩) (e11 : PySem.W.codeIn K cd11 "_law_whole" = true) (k11 : PySem.W.keepIn K (.ref f11) = true)
    (a12 : PySem.W.nsIn K mainGlobals "_law_ties" = some (some (.ref f12))) (l12 : K.lookup f12 = some ⟨oc12, od12, .func (PySem.W.fnOf "_law_ties" "_law_ties" (defArgs st_12) (defBody st_12) (defScope st_12) .none kV12 dc12 pm12 an12 cd12 ct12), sl12⟩) (e12 : PySem.W.codeIn K cd12 "_law_ties" = true) (k12 : PySem.W.keepIn K (.ref f12) = true)
    (a13 : PySem.W.nsIn K mainGlobals "_law_told" = some (some (.ref f13))) (l13 : K.lookup f13 = some ⟨oc13, od13, .func (PySem.W.fnOf "_law_told" "_law_told" (defArgs st_13) (defBody st_13) (defScope st_13) .none kV13 dc13 pm13 an13 cd13 ct13), sl13⟩) (e13 : PySem.W.codeIn K cd13 "_law_told" = true) (k13 : PySem.W.keepIn K (.ref f13) = true)
    (a14 : PySem.W.nsIn K mainGlobals "_law_deep" = some (some (.ref f14))) (l14 : K.lookup f14 = some ⟨oc14, od14, .func (PySem.W.fnOf "_law_deep" "_law_deep" (defArgs st_14) (defBody st_14) (defScope st_14) .none kV14 dc14 pm14 an14 cd14 ct14), sl14⟩) (e14 : PySem.W.codeIn K cd14 "_law_deep" = true) (k14 : PySem.W.keepIn K (.ref f14) = true)
    (a15 : PySem.W.nsIn K mainGlobals "_law_spoilt" = some (some (.ref f15))) (l15 : K.lookup f15 = some ⟨oc15, od15, .func (PySem.W.fnOf "_law_spoilt" "_law_spoilt" (defArgs st_15) (defBody st_15) (defScope st_15) .none kV15 dc15 pm15 an15 cd15 ct15), sl15⟩) (e15 : PySem.W.codeIn K cd15 "_law_spoilt" = true) (k15 : PySem.W.keepIn K (.ref f15) = true)
    (a16 : PySem.W.nsIn K mainGlobals "_law_right" = some (some (.ref f16))) (l16 : K.lookup f16 = some ⟨oc16, od16, .func (PySem.W.fnOf "_law_right" "_law_right" (defArgs st_16) (defBody st_16) (defScope st_16) .none kV16 dc16 pm16 an16 cd16 ct16), sl16⟩) (e16 : PySem.W.codeIn K cd16 "_law_right" = true) (k16 : PySem.W.keepIn K (.ref f16) = true)
    (a17 : PySem.W.nsIn K mainGlobals "law" = some (some (.ref f17))) (l17 : K.lookup f17 = some ⟨oc17, od17, .func (PySem.W.fnOf "law" "law" (defArgs st_17) (defBody st_17) (defScope st_17) .none kV17 dc17 pm17 an17 cd17 ct17), sl17⟩) (e17 : PySem.W.codeIn K cd17 "law" = true) (k17 : PySem.W.keepIn K (.ref f17) = true)
    {X_0 X_1 X_2 X_3 X_4 X_5 X_6 X_7 X_8 X_9 : Addr}
    (xac_E0 : PySem.W.nsIn K mainGlobals "NoWeb" = some (some (.ref X_0))) (xx_0 : PySem.W.excIn K X_0 [.type "ValueError", .type "Exception", .type "BaseException", .type "object"] "ValueError.__new__" = true) (xk_0 : PySem.W.keepIn K (.ref X_0) = true) (xb_0 : PySem.W.subIn K (.ref X_0) (.type "BaseException") = some true) (xt_0 : PySem.W.typeIn K (.ref X_0) = some (.type "type"))
    (xac_E1 : PySem.W.nsIn K mainGlobals "AskError" = some (some (.ref X_1))) (xx_1 : PySem.W.excIn K X_1 [.type "ValueError", .type "Exception", .type "BaseException", .type "object"] "ValueError.__new__" = true) (xk_1 : PySem.W.keepIn K (.ref X_1) = true) (xb_1 : PySem.W.subIn K (.ref X_1) (.type "BaseException") = some true) (xt_1 : PySem.W.typeIn K (.ref X_1) = some (.type "type"))
    (xac_E2 : PySem.W.nsIn K mainGlobals "NoBack" = some (some (.ref X_2))) (xx_2 : PySem.W.excIn K X_2 [.type "ValueError", .type "Exception", .type "BaseException", .type "object"] "ValueError.__new__" = true) (xk_2 : PySem.W.keepIn K (.ref X_2) = true) (xb_2 : PySem.W.subIn K (.ref X_2) (.type "BaseException") = some true) (xt_2 : PySem.W.typeIn K (.ref X_2) = some (.type "type"))
    (xac_E3 : PySem.W.nsIn K mainGlobals "NoFrame" = some (some (.ref X_3))) (xx_3 : PySem.W.excIn K X_3 [.type "ValueError", .type "Exception", .type "BaseException", .type "object"] "ValueError.__new__" = true) (xk_3 : PySem.W.keepIn K (.ref X_3) = true) (xb_3 : PySem.W.subIn K (.ref X_3) (.type "BaseException") = some true) (xt_3 : PySem.W.typeIn K (.ref X_3) = some (.type "type"))
    (xac_E4 : PySem.W.nsIn K mainGlobals "NoGrowth" = some (some (.ref X_4))) (xx_4 : PySem.W.excIn K X_4 [.type "ValueError", .type "Exception", .type "BaseException", .type "object"] "ValueError.__new__" = true) (xk_4 : PySem.W.keepIn K (.ref X_4) = true) (xb_4 : PySem.W.subIn K (.ref X_4) (.type "BaseException") = some true) (xt_4 : PySem.W.typeIn K (.ref X_4) = some (.type "type"))
    (xac_E5 : PySem.W.nsIn K mainGlobals "NoRow" = some (some (.ref X_5))) (xx_5 : PySem.W.excIn K X_5 [.type "ValueError", .type "Exception", .type "BaseException", .type "object"] "ValueError.__new__" = true) (xk_5 : PySem.W.keepIn K (.ref X_5) = true) (xb_5 : PySem.W.subIn K (.ref X_5) (.type "BaseException") = some true) (xt_5 : PySem.W.typeIn K (.ref X_5) = some (.type "type"))
    (xac_E6 : PySem.W.nsIn K mainGlobals "NoText" = some (some (.ref X_6))) (xx_6 : PySem.W.excIn K X_6 [.type "ValueError", .type "Exception", .type "BaseException", .type "object"] "ValueError.__new__" = true) (xk_6 : PySem.W.keepIn K (.ref X_6) = true) (xb_6 : PySem.W.subIn K (.ref X_6) (.type "BaseException") = some true) (xt_6 : PySem.W.typeIn K (.ref X_6) = some (.type "type"))
    (xac_E7 : PySem.W.nsIn K mainGlobals "NoTie" = some (some (.ref X_7))) (xx_7 : PySem.W.excIn K X_7 [.type "ValueError", .type "Exception", .type "BaseException", .type "object"] "ValueError.__new__" = true) (xk_7 : PySem.W.keepIn K (.ref X_7) = true) (xb_7 : PySem.W.subIn K (.ref X_7) (.type "BaseException") = some true) (xt_7 : PySem.W.typeIn K (.ref X_7) = some (.type "type"))
    (xac_E8 : PySem.W.nsIn K mainGlobals "NoTruth" = some (some (.ref X_8))) (xx_8 : PySem.W.excIn K X_8 [.type "ValueError", .type "Exception", .type "BaseException", .type "object"] "ValueError.__new__" = true) (xk_8 : PySem.W.keepIn K (.ref X_8) = true) (xb_8 : PySem.W.subIn K (.ref X_8) (.type "BaseException") = some true) (xt_8 : PySem.W.typeIn K (.ref X_8) = some (.type "type"))
    (xac_E9 : PySem.W.nsIn K mainGlobals "NoTurn" = some (some (.ref X_9))) (xx_9 : PySem.W.excIn K X_9 [.type "ValueError", .type "Exception", .type "BaseException", .type "object"] "ValueError.__new__" = true) (xk_9 : PySem.W.keepIn K (.ref X_9) = true) (xb_9 : PySem.W.subIn K (.ref X_9) (.type "BaseException") = some true) (xt_9 : PySem.W.typeIn K (.ref X_9) = some (.type "type"))
    (xe_0_0 : PySem.W.exmOne K (.ref X_0) (.ref X_0) = some true) (xe_0_1 : PySem.W.exmOne K (.ref X_1) (.ref X_0) = some false) (xe_0_2 : PySem.W.exmOne K (.ref X_2) (.ref X_0) = some false) (xe_0_3 : PySem.W.exmOne K (.ref X_3) (.ref X_0) = some false) (xe_0_4 : PySem.W.exmOne K (.ref X_4) (.ref X_0) = some false) (xe_0_5 : PySem.W.exmOne K (.ref X_5) (.ref X_0) = some false) (xe_0_6 : PySem.W.exmOne K (.ref X_6) (.ref X_0) = some false) (xe_0_7 : PySem.W.exmOne K (.ref X_7) (.ref X_0) = some false) (xe_0_8 : PySem.W.exmOne K (.ref X_8) (.ref X_0) = some false) (xe_0_9 : PySem.W.exmOne K (.ref X_9) (.ref X_0) = some false)
    (xe_1_0 : PySem.W.exmOne K (.ref X_0) (.ref X_1) = some true) (xe_1_1 : PySem.W.exmOne K (.ref X_1) (.ref X_1) = some true) (xe_1_2 : PySem.W.exmOne K (.ref X_2) (.ref X_1) = some true) (xe_1_3 : PySem.W.exmOne K (.ref X_3) (.ref X_1) = some true) (xe_1_4 : PySem.W.exmOne K (.ref X_4) (.ref X_1) = some true) (xe_1_5 : PySem.W.exmOne K (.ref X_5) (.ref X_1) = some true) (xe_1_6 : PySem.W.exmOne K (.ref X_6) (.ref X_1) = some true) (xe_1_7 : PySem.W.exmOne K (.ref X_7) (.ref X_1) = some true) (xe_1_8 : PySem.W.exmOne K (.ref X_8) (.ref X_1) = some true) (xe_1_9 : PySem.W.exmOne K (.ref X_9) (.ref X_1) = some true)
    (xeg_0 : PySem.W.findIn K (.ref X_0) "__getattribute__" = some (some (.builtin "BaseException.__getattribute__"))) (xek_0 : PySem.W.findIn K (.ref X_0) "__getattr__" = some none) (xed_0 : PySem.W.hasDictIn K X_0 = true) (xea_0 : PySem.W.findIn K (.ref X_0) "__class__" = some (some (.builtin "object.__class__"))) (xen_0 : PySem.W.specialIn K (.builtin "object.__class__") "__get__" = some (some (.builtin "getset_descriptor.__get__"))) (xet_0 : PySem.W.takesIn K (.builtin "object.__class__") = some true) (xem_0 : PySem.W.mroIn K X_0 (.type "object") = some true) (xeq_0_0 : PySem.W.kitOne K (.ref X_0) (.type "bool") = some false) (xeq_0_1 : PySem.W.kitOne K (.ref X_0) (.type "int") = some false) (xeq_0_2 : PySem.W.kitOne K (.ref X_0) (.type "str") = some false) (xeq_0_3 : PySem.W.kitOne K (.ref X_0) (.type "tuple") = some false) (xeq_0_4 : PySem.W.kitOne K (.ref X_0) (.type "list") = some false) (xeq_0_5 : PySem.W.kitOne K (.ref X_0) (.type "dict") = some false) (xev_0 : PySem.W.kitOne K (.ref X_0) (.type "ValueError") = some true) (xeo_0_0 : PySem.W.kitOne K (.ref X_0) (.ref X_0) = some true) (xeo_2_0 : PySem.W.kitOne K (.ref X_0) (.ref X_2) = some false) (xeo_3_0 : PySem.W.kitOne K (.ref X_0) (.ref X_3) = some false) (xeo_4_0 : PySem.W.kitOne K (.ref X_0) (.ref X_4) = some false) (xeo_5_0 : PySem.W.kitOne K (.ref X_0) (.ref X_5) = some false) (xeo_6_0 : PySem.W.kitOne K (.ref X_0) (.ref X_6) = some false) (xeo_7_0 : PySem.W.kitOne K (.ref X_0) (.ref X_7) = some false) (xeo_8_0 : PySem.W.kitOne K (.ref X_0) (.ref X_8) = some false) (xeo_9_0 : PySem.W.kitOne K (.ref X_0) (.ref X_9) = some false)
    (u3 : K.lookup c3 = some ⟨ec3, ed3, .fields ev3, es3⟩) (p3 : ev3[11]? = some (.ref t3)) (h3 : PySem.W.codeHdIn K c3 t3 = true) (n3 : K.lookup t3 = none)
    (u4 : K.lookup c4 = some ⟨ec4, ed4, .fields ev4, es4⟩) (p4 : ev4[11]? = some (.ref t4)) (h4 : PySem.W.codeHdIn K c4 t4 = true) (n4 : K.lookup t4 = none)
    (u6 : K.lookup c6 = some ⟨ec6, ed6, .fields ev6, es6⟩) (p6 : ev6[11]? = some (.ref t6)) (h6 : PySem.W.codeHdIn K c6 t6 = true) (n6 : K.lookup t6 = none)
    (z_ValueError : PySem.W.nsIn K mainGlobals "ValueError" = some none)
    (z_abs : PySem.W.nsIn K mainGlobals "abs" = some none)
    (z_all : PySem.W.nsIn K mainGlobals "all" = some none)
    (z_bool : PySem.W.nsIn K mainGlobals "bool" = some none)
    (z_int : PySem.W.nsIn K mainGlobals "int" = some none)
    (z_isinstance : PySem.W.nsIn K mainGlobals "isinstance" = some none)
    (z_len : PySem.W.nsIn K mainGlobals "len" = some none)
    (z_list : PySem.W.nsIn K mainGlobals "list" = some none)
    (z_max : PySem.W.nsIn K mainGlobals "max" = some none)
    (z_min : PySem.W.nsIn K mainGlobals "min" = some none)
    (z_range : PySem.W.nsIn K mainGlobals "range" = some none)
    (z_repr : PySem.W.nsIn K mainGlobals "repr" = some none)
    (z_sorted : PySem.W.nsIn K mainGlobals "sorted" = some none)
    (z_tuple : PySem.W.nsIn K mainGlobals "tuple" = some none) :
    LawH PySem.Challenge.rw_allasked_k04_webs_made_or_none w K (L2.CX PySem.Challenge.rw_allasked_k04_webs_made_or_none.prog w) 65 63 "_law_script" mg fa h := by
  have e : f17 = fa := by
    have q := (PySem.W.mg_of X G a17).symm.trans hfa
    cases q
    rfl
  subst e
  refine ⟨(PySem.W.fnOf "law" "law" (defArgs st_17) (defBody st_17) (defScope st_17) .none kV17 dc17 pm17 an17 cd17 ct17), [(c3, t3), (c4, t4), (c6, t6)], spD ⟨K, [(t3, none), (t4, none), (t6, none)]⟩ (some (gx ((fun i => match i with | 0 => X_0 | 1 => X_1 | 2 => X_2 | 3 => X_3 | 4 => X_4 | 5 => X_5 | 6 => X_6 | 7 => X_7 | 8 => X_8 | _ => X_9) : Nat → Addr))) 1 (Phi bodies 65 0 17), ?_, ?_, ?_, ?_, ?_, ?_⟩
  · intro p hp
    rcases List.mem_cons.mp hp with e | hp
    · subst e; exact tab_of TA (by decide) (PySem.W.mg_of X G a3) l3 rfl rfl h3
    rcases List.mem_cons.mp hp with e | hp
    · subst e; exact tab_of TA (by decide) (PySem.W.mg_of X G a4) l4 rfl rfl h4
    rcases List.mem_cons.mp hp with e | hp
    · subst e; exact tab_of TA (by decide) (PySem.W.mg_of X G a6) l6 rfl rfl h6
    exact absurd hp List.not_mem_nil
  · intro p hp
    rcases List.mem_cons.mp hp with e | hp
    · subst e; exact n3
    rcases List.mem_cons.mp hp with e | hp
    · subst e; exact n4
    rcases List.mem_cons.mp hp with e | hp
    · subst e; exact n6
    exact absurd hp List.not_mem_nil
  · intro p hp
    rcases List.mem_cons.mp hp with e | hp
    · subst e; exact PySem.W.codeHd_of_K X h3
    rcases List.mem_cons.mp hp with e | hp
    · subst e; exact PySem.W.codeHd_of_K X h4
    rcases List.mem_cons.mp hp with e | hp
    · subst e; exact PySem.W.codeHd_of_K X h6
    exact absurd hp List.not_mem_nil
  · exact fun s u => .of_eq rfl
  · refine law_spE ?_ (tu_none (by simp)) law_data
    intro P hP
    rcases List.mem_cons.mp hP with e | hP
    · exact ⟨(c3, t3), List.mem_cons_self, (congrArg Prod.fst e).symm⟩
    rcases List.mem_cons.mp hP with e | hP
    · exact ⟨(c4, t4), (List.mem_cons_of_mem _ List.mem_cons_self), (congrArg Prod.fst e).symm⟩
    rcases List.mem_cons.mp hP with e | hP
    · exact ⟨(c6, t6), (List.mem_cons_of_mem _ (List.mem_cons_of_mem _ List.mem_cons_self)), (congrArg Prod.fst e).symm⟩
    exact absurd hP List.not_mem_nil
  · intro base KB GB TB SB
    let ff : Nat → Addr := (fun i => match i with | 0 => f0 | 1 => f1 | 2 => f2 | 3 => f3 | 4 => f4 | 5 => f5 | 6 => f6 | 7 => f7 | 8 => f8 | 9 => f9 | 10 => f10 | 11 => f11 | 12 => f12 | 13 => f13 | 14 => f14 | 15 => f15 | 16 => f16 | _ => f17)
    let fd : Nat → FuncData := (fun i => match i with | 0 => (PySem.W.fnOf "is_whole" "is_whole" (defArgs st_0) (defBody st_0) (defScope st_0) .none kV0 dc0 pm0 an0 cd0 ct0) | 1 => (PySem.W.fnOf "is_place" "is_place" (defArgs st_1) (defBody st_1) (defScope st_1) .none kV1 dc1 pm1 an1 cd1 ct1) | 2 => (PySem.W.fnOf "is_pair" "is_pair" (defArgs st_2) (defBody st_2) (defScope st_2) .none kV2 dc2 pm2 an2 cd2 ct2) | 3 => (PySem.W.fnOf "is_rising" "is_rising" (defArgs st_3) (defBody st_3) (defScope st_3) .none kV3 dc3 pm3 an3 (.ref c3) ct3) | 4 => (PySem.W.fnOf "sorted_ties" "sorted_ties" (defArgs st_4) (defBody st_4) (defScope st_4) .none kV4 dc4 pm4 an4 (.ref c4) ct4) | 5 => (PySem.W.fnOf "is_tie" "is_tie" (defArgs st_5) (defBody st_5) (defScope st_5) .none kV5 dc5 pm5 an5 cd5 ct5) | 6 => (PySem.W.fnOf "is_web" "is_web" (defArgs st_6) (defBody st_6) (defScope st_6) .none kV6 dc6 pm6 an6 (.ref c6) ct6) | 7 => (PySem.W.fnOf "web_of" "web_of" (defArgs st_7) (defBody st_7) (defScope st_7) .none kV7 dc7 pm7 an7 cd7 ct7) | 8 => (PySem.W.fnOf "_law_pen" "_law_pen" (defArgs st_8) (defBody st_8) (defScope st_8) .none kV8 dc8 pm8 an8 cd8 ct8) | 9 => (PySem.W.fnOf "_law_take" "_law_take" (defArgs st_9) (defBody st_9) (defScope st_9) .none kV9 dc9 pm9 an9 cd9 ct9) | 10 => (PySem.W.fnOf "_law_frame" "_law_frame" (defArgs st_10) (defBody st_10) (defScope st_10) .none kV10 dc10 pm10 an10 cd10 ct10) | 11 => (PySem.W.fnOf "_law_whole" "_law_whole" (defArgs st_11) (defBody st_11) (defScope st_11) .none kV11 dc11 pm11 an11 cd11 ct11) | 12 => (PySem.W.fnOf "_law_ties" "_law_ties" (defArgs st_12) (defBody st_12) (defScope st_12) .none kV12 dc12 pm12 an12 cd12 ct12) | 13 => (PySem.W.fnOf "_law_told" "_law_told" (defArgs st_13) (defBody st_13) (defScope st_13) .none kV13 dc13 pm13 an13 cd13 ct13) | 14 => (PySem.W.fnOf "_law_deep" "_law_deep" (defArgs st_14) (defBody st_14) (defScope st_14) .none kV14 dc14 pm14 an14 cd14 ct14) | 15 => (PySem.W.fnOf "_law_spoilt" "_law_spoilt" (defArgs st_15) (defBody st_15) (defScope st_15) .none kV15 dc15 pm15 an15 cd15 ct15) | 16 => (PySem.W.fnOf "_law_right" "_law_right" (defArgs st_16) (defBody st_16) (defScope st_16) .none kV16 dc16 pm16 an16 cd16 ct16) | _ => (PySem.W.fnOf "law" "law" (defArgs st_17) (defBody st_17) (defScope st_17) .none kV17 dc17 pm17 an17 cd17 ct17))
    let cc : Nat → Addr := (fun i => match i with | 3 => c3 | 4 => c4 | 6 => c6 | _ => 0)
    let xc : Nat → Addr := (fun i => match i with | 0 => X_0 | 1 => X_1 | 2 => X_2 | 3 => X_3 | 4 => X_4 | 5 => X_5 | 6 => X_6 | 7 => X_7 | 8 => X_8 | _ => X_9)
    let tP : Nat → Addr := (fun i => match i with | 3 => t3 | 4 => t4 | 6 => t6 | _ => 0)
    have T : FnsOk K mg (Fs ff fd) := by
      refine ⟨fun i e he => ?_⟩
      rcases i with _ | _ | _ | _ | _ | _ | _ | _ | _ | _ | _ | _ | _ | _ | _ | _ | _ | _ | i
      · obtain rfl := Option.some.inj he
        exact ⟨PySem.W.mg_of X G a0, k0, (fun_mk (st := st_0) l0 e0 k0).binds (ps := ["thing"]) fun _ _ _ _ _ _ us hl => match us, hl with | [_], _ => rfl⟩
      · obtain rfl := Option.some.inj he
        exact ⟨PySem.W.mg_of X G a1, k1, (fun_mk (st := st_1) l1 e1 k1).binds (ps := ["many", "thing"]) fun _ _ _ _ _ _ us hl => match us, hl with | [_, _], _ => rfl⟩
      · obtain rfl := Option.some.inj he
        exact ⟨PySem.W.mg_of X G a2, k2, (fun_mk (st := st_2) l2 e2 k2).binds (ps := ["many", "thing"]) fun _ _ _ _ _ _ us hl => match us, hl with | [_, _], _ => rfl⟩
      · obtain rfl := Option.some.inj he
        exact ⟨PySem.W.mg_of X G a3, k3, (fun_mk (st := st_3) l3 e3 k3).binds (ps := ["ties"]) fun _ _ _ _ _ _ us hl => match us, hl with | [_], _ => rfl⟩
      · obtain rfl := Option.some.inj he
        exact ⟨PySem.W.mg_of X G a4, k4, (fun_mk (st := st_4) l4 e4 k4).binds (ps := ["many", "things"]) fun _ _ _ _ _ _ us hl => match us, hl with | [_, _], _ => rfl⟩
      · obtain rfl := Option.some.inj he
        exact ⟨PySem.W.mg_of X G a5, k5, (fun_mk (st := st_5) l5 e5 k5).binds (ps := ["frame", "thing"]) fun _ _ _ _ _ _ us hl => match us, hl with | [_, _], _ => rfl⟩
      · obtain rfl := Option.some.inj he
        exact ⟨PySem.W.mg_of X G a6, k6, (fun_mk (st := st_6) l6 e6 k6).binds (ps := ["frame", "thing"]) fun _ _ _ _ _ _ us hl => match us, hl with | [_, _], _ => rfl⟩
      · obtain rfl := Option.some.inj he
        exact ⟨PySem.W.mg_of X G a7, k7, (fun_mk (st := st_7) l7 e7 k7).binds (ps := ["frame", "ties"]) fun _ _ _ _ _ _ us hl => match us, hl with | [_, _], _ => rfl⟩
      · obtain rfl := Option.some.inj he
        exact ⟨PySem.W.mg_of X G a8, k8, (fun_mk (st := st_8) l8 e8 k8).binds (ps := ["_law_script", "_law_k"]) fun _ _ _ _ _ _ us hl => match us, hl with | [_, _], _ => rfl⟩
      · obtain rfl := Option.some.inj he
        exact ⟨PySem.W.mg_of X G a9, k9, (fun_mk (st := st_9) l9 e9 k9).binds (ps := ["_law_pen_here", "_law_many"]) fun _ _ _ _ _ _ us hl => match us, hl with | [_, _], _ => rfl⟩
      · obtain rfl := Option.some.inj he
        exact ⟨PySem.W.mg_of X G a10, k10, (fun_mk (st := st_10) l10 e10 k10).binds (ps := ["_law_pen_here"]) fun _ _ _ _ _ _ us hl => match us, hl with | [_], _ => rfl⟩
      · obtain rfl := Option.some.inj he
        exact ⟨PySem.W.mg_of X G a11, k11, (fun_mk (st := st_11) l11 e11 k11).binds (ps := ["_law_thing"]) fun _ _ _ _ _ _ us hl => match us, hl with | [_], _ => rfl⟩
      · obtain rfl := Option.some.inj he
        exact ⟨PySem.W.mg_of X G a12, k12, (fun_mk (st := st_12) l12 e12 k12).binds (ps := ["_law_frame_here", "_law_thing"]) fun _ _ _ _ _ _ us hl => match us, hl with | [_, _], _ => rfl⟩
      · obtain rfl := Option.some.inj he
        exact ⟨PySem.W.mg_of X G a13, k13, (fun_mk (st := st_13) l13 e13 k13).binds (ps := ["_law_frame_here", "_law_thing", "_law_base"]) fun _ _ _ _ _ _ us hl => match us, hl with | [_, _, _], _ => rfl⟩
      · obtain rfl := Option.some.inj he
        exact ⟨PySem.W.mg_of X G a14, k14, (fun_mk (st := st_14) l14 e14 k14).binds (ps := ["_law_pen_here"]) fun _ _ _ _ _ _ us hl => match us, hl with | [_], _ => rfl⟩
      · obtain rfl := Option.some.inj he
        exact ⟨PySem.W.mg_of X G a15, k15, (fun_mk (st := st_15) l15 e15 k15).binds (ps := ["_law_pen_here", "_law_frame_here", "_law_web"]) fun _ _ _ _ _ _ us hl => match us, hl with | [_, _, _], _ => rfl⟩
      · obtain rfl := Option.some.inj he
        exact ⟨PySem.W.mg_of X G a16, k16, (fun_mk (st := st_16) l16 e16 k16).binds (ps := ["_law_pen_here", "_law_frame_here", "_law_thing"]) fun _ _ _ _ _ _ us hl => match us, hl with | [_, _, _], _ => rfl⟩
      · obtain rfl := Option.some.inj he
        exact ⟨PySem.W.mg_of X G a17, k17, (fun_mk (st := st_17) l17 e17 k17).binds (ps := ["_law_script"]) fun _ _ _ _ _ _ us hl => match us, hl with | [_], _ => rfl⟩
      · simp [Fs] at he
    have F : Fa K mg base ff fd cc tP xc := ⟨PySem.W.mg_none_of X G z_ValueError, PySem.W.mg_none_of X G z_abs, PySem.W.mg_none_of X G z_all, PySem.W.mg_none_of X G z_bool, PySem.W.mg_none_of X G z_int, PySem.W.mg_none_of X G z_isinstance, PySem.W.mg_none_of X G z_len, PySem.W.mg_none_of X G z_list, PySem.W.mg_none_of X G z_max, PySem.W.mg_none_of X G z_min, PySem.W.mg_none_of X G z_range, PySem.W.mg_none_of X G z_repr, PySem.W.mg_none_of X G z_sorted, PySem.W.mg_none_of X G z_tuple, T, TB (c3, t3) List.mem_cons_self, List.mem_cons_self, TB (c4, t4) (List.mem_cons_of_mem _ List.mem_cons_self), (List.mem_cons_of_mem _ List.mem_cons_self), TB (c6, t6) (List.mem_cons_of_mem _ (List.mem_cons_of_mem _ List.mem_cons_self)), (List.mem_cons_of_mem _ (List.mem_cons_of_mem _ List.mem_cons_self)), ⟨PySem.W.mg_of X G xac_E0, xx_0, xk_0, xb_0, xt_0⟩, ⟨PySem.W.mg_of X G xac_E1, xx_1, xk_1, xb_1, xt_1⟩, ⟨PySem.W.mg_of X G xac_E2, xx_2, xk_2, xb_2, xt_2⟩, ⟨PySem.W.mg_of X G xac_E3, xx_3, xk_3, xb_3, xt_3⟩, ⟨PySem.W.mg_of X G xac_E4, xx_4, xk_4, xb_4, xt_4⟩, ⟨PySem.W.mg_of X G xac_E5, xx_5, xk_5, xb_5, xt_5⟩, ⟨PySem.W.mg_of X G xac_E6, xx_6, xk_6, xb_6, xt_6⟩, ⟨PySem.W.mg_of X G xac_E7, xx_7, xk_7, xb_7, xt_7⟩, ⟨PySem.W.mg_of X G xac_E8, xx_8, xk_8, xb_8, xt_8⟩, ⟨PySem.W.mg_of X G xac_E9, xx_9, xk_9, xb_9, xt_9⟩, (fun i => by
        rcases i with _ | _ | _ | _ | _ | _ | _ | _ | _ | i
        · exact xe_0_0
        · exact xe_0_1
        · exact xe_0_2
        · exact xe_0_3
        · exact xe_0_4
        · exact xe_0_5
        · exact xe_0_6
        · exact xe_0_7
        · exact xe_0_8
        · exact xe_0_9), (fun i => by
        rcases i with _ | _ | _ | _ | _ | _ | _ | _ | _ | i
        · exact xe_1_0
        · exact xe_1_1
        · exact xe_1_2
        · exact xe_1_3
        · exact xe_1_4
        · exact xe_1_5
        · exact xe_1_6
        · exact xe_1_7
        · exact xe_1_8
        · exact xe_1_9), (fun j hj => by
        rcases j with _ | j
        · exact ⟨xac_E0, ⟨⟨xeg_0, xek_0, xb_0, xed_0, xea_0, xen_0, xet_0, xem_0⟩, xeq_0_0, xeq_0_1, xeq_0_2, xeq_0_3, xeq_0_4, xeq_0_5⟩⟩
        · omega), (fun i hi j hj => by
        simp only [KIS, List.mem_cons, List.not_mem_nil, or_false] at hi
        rcases hi with rfl | rfl | rfl | rfl | rfl | rfl | rfl | rfl | rfl
        · rcases j with _ | j
          · exact xeo_0_0
          · omega
        · rcases j with _ | j
          · exact xeo_2_0
          · omega
        · rcases j with _ | j
          · exact xeo_3_0
          · omega
        · rcases j with _ | j
          · exact xeo_4_0
          · omega
        · rcases j with _ | j
          · exact xeo_5_0
          · omega
        · rcases j with _ | j
          · exact xeo_6_0
          · omega
        · rcases j with _ | j
          · exact xeo_7_0
          · omega
        · rcases j with _ | j
          · exact xeo_8_0
          · omega
        · rcases j with _ | j
          · exact xeo_9_0
          · omega
        ), (fun j hj => by
        rcases j with _ | j
        · exact xev_0
        · omega), SB⟩
    have LL := phi_ok (P := PySem.Challenge.rw_allasked_k04_webs_made_or_none.prog) (w := w) (K := K) (mg := mg) (base := base) (CX := (L2.CX PySem.Challenge.rw_allasked_k04_webs_made_or_none.prog w)) (wn := ⟨K, Tabs tP⟩) (cl := some (gx xc)) (fs := Fs ff fd) (bs := bodies) (by
      intro k lv L i e b he hb
      rcases i with _ | _ | _ | _ | _ | _ | _ | _ | _ | _ | _ | _ | _ | _ | _ | _ | _ | _ | i
      · obtain rfl := Option.some.inj he
        obtain rfl := Option.some.inj hb
        exact fn_okE l0 e0 sc_0 fun A outer s H E hr => bd_0 F L hr
      · obtain rfl := Option.some.inj he
        obtain rfl := Option.some.inj hb
        exact fn_okE l1 e1 sc_1 fun A outer s H E hr => bd_1 F L hr
      · obtain rfl := Option.some.inj he
        obtain rfl := Option.some.inj hb
        exact fn_okE l2 e2 sc_2 fun A outer s H E hr => bd_2 F L hr
      · obtain rfl := Option.some.inj he
        obtain rfl := Option.some.inj hb
        exact fn_okE l3 e3 sc_3 fun A outer s H E hr => bd_3 F L hr
      · obtain rfl := Option.some.inj he
        obtain rfl := Option.some.inj hb
        exact fn_okE l4 e4 sc_4 fun A outer s H E hr => bd_4 F L hr
      · obtain rfl := Option.some.inj he
        obtain rfl := Option.some.inj hb
        exact fn_okE l5 e5 sc_5 fun A outer s H E hr => bd_5 F L hr
      · obtain rfl := Option.some.inj he
        obtain rfl := Option.some.inj hb
        exact fn_okE l6 e6 sc_6 fun A outer s H E hr => bd_6 F L hr
      · obtain rfl := Option.some.inj he
        obtain rfl := Option.some.inj hb
        exact fn_okE l7 e7 sc_7 fun A outer s H E hr => bd_7 F L hr
      · obtain rfl := Option.some.inj he
        obtain rfl := Option.some.inj hb
        exact fn_okE l8 e8 sc_8 fun A outer s H E hr => bd_8 F L hr
      · obtain rfl := Option.some.inj he
        obtain rfl := Option.some.inj hb
        exact fn_okE l9 e9 sc_9 fun A outer s H E hr => bd_9 F L hr
      · obtain rfl := Option.some.inj he
        obtain rfl := Option.some.inj hb
        exact fn_okE l10 e10 sc_10 fun A outer s H E hr => bd_10 F L hr
      · obtain rfl := Option.some.inj he
        obtain rfl := Option.some.inj hb
        exact fn_okE l11 e11 sc_11 fun A outer s H E hr => bd_11 F L hr
      · obtain rfl := Option.some.inj he
        obtain rfl := Option.some.inj hb
        exact fn_okE l12 e12 sc_12 fun A outer s H E hr => bd_12 F L hr
      · obtain rfl := Option.some.inj he
        obtain rfl := Option.some.inj hb
        exact fn_okE l13 e13 sc_13 fun A outer s H E hr => bd_13 F L hr
      · obtain rfl := Option.some.inj he
        obtain rfl := Option.some.inj hb
        exact fn_okE l14 e14 sc_14 fun A outer s H E hr => bd_14 F L hr
      · obtain rfl := Option.some.inj he
        obtain rfl := Option.some.inj hb
        exact fn_okE l15 e15 sc_15 fun A outer s H E hr => bd_15 F L hr
      · obtain rfl := Option.some.inj he
        obtain rfl := Option.some.inj hb
        exact fn_okE l16 e16 sc_16 fun A outer s H E hr => bd_16 F L hr
      · obtain rfl := Option.some.inj he
        obtain rfl := Option.some.inj hb
        exact fn_okE l17 e17 sc_17 fun A outer s H E hr => bd_17 F L hr
      · simp [Fs] at he) 65
    exact LL.ok 0 (Nat.zero_le _) 17 _ rfl
end Pn
open PySem PySem.W PyProof.Rows
set_option maxRecDepth 100000 in
set_option maxHeartbeats 0 in
theorem PySem.Challenge.cw_allasked_k04_webs_made_or_none_holds : PySem.Challenge.rw_allasked_k04_webs_made_or_none.Holds := by
  w_on; o_law; k_head; (case hw => w_witness2)
  k_fill
  refine Dv.walk_allH (l := PySem.Challenge.rw_allasked_k04_webs_made_or_none) (n := 63) (k := 65) (x := "_law_script") (CX := fun w => L2.CX PySem.Challenge.rw_allasked_k04_webs_made_or_none.prog w) ["is_rising", "sorted_ties", "is_web"] (by decide +kernel) rfl (by decide) rfl ⟨⟨rfl, by decide, by decide⟩, rfl⟩ (by decide +kernel) (fun w h Y => PySem.W.kIn_of Y) ?F (fun _ => Dv.cx_no)
  case F =>
    intro w mg fa h Y KX G hmg TA
    refine' Pn.all_mk KX G hmg TA ?a0 ?l0 ?e0 ?k0 ?a1 ?l1 ?e1 ?k1 ?a2 ?l2 ?e2 ?k2 ?a3 ?l3 ?e3 ?k3 ?a4 ?l4 ?e4 ?k4 ?a5 ?l5 ?e5 ?k5 ?a6 ?l6 ?e6 ?k6 ?a7 ?l7 ?e7 ?k7 ?a8 ?l8 ?e8 ?k8 ?a9 ?l9 ?e9 ?k9 ?a10 ?l10 ?e10 ?k10 ?a11 ?l11 ?e11 ?k11 ?a12 ?l12 ?e12 ?k12 ?a13 ?l13 ?e13 ?k13 ?a14 ?l14 ?e14 ?k14 ?a15 ?l15 ?e15 ?k15 ?a16 ?l16 ?e16 ?k16 ?a17 ?l17 ?e17 ?k17 ?xac_E0 ?xx_0 ?xk_0 ?xb_0 ?xt_0 ?xac_E1 ?xx_1 ?xk_1 ?xb_1 ?xt_1 ?xac_E2 ?xx_2 ?xk_2 ?xb_2 ?xt_2 ?xac_E3 ?xx_3 ?xk_3 ?xb_3 ?xt_3 ?xac_E4 ?xx_4 ?xk_4 ?xb_4 ?xt_4 ?xac_E5 ?xx_5 ?xk_5 ?xb_5 ?xt_5 ?xac_E6 ?xx_6 ?xk_6 ?xb_6 ?xt_6 ?xac_E7 ?xx_7 ?xk_7 ?xb_7 ?xt_7 ?xac_E8 ?xx_8 ?xk_8 ?xb_8 ?xt_8 ?xac_E9 ?xx_9 ?xk_9 ?xb_9 ?xt_9 ?xe_0_0 ?xe_0_1 ?xe_0_2 ?xe_0_3 ?xe_0_4 ?xe_0_5 ?xe_0_6 ?xe_0_7 ?xe_0_8 ?xe_0_9 ?xe_1_0 ?xe_1_1 ?xe_1_2 ?xe_1_3 ?xe_1_4 ?xe_1_5 ?xe_1_6 ?xe_1_7 ?xe_1_8 ?xe_1_9 ?xeg_0 ?xek_0 ?xed_0 ?xea_0 ?xen_0 ?xet_0 ?xem_0 ?xeq_0_0 ?xeq_0_1 ?xeq_0_2 ?xeq_0_3 ?xeq_0_4 ?xeq_0_5 ?xev_0 ?xeo_0_0 ?xeo_2_0 ?xeo_3_0 ?xeo_4_0 ?xeo_5_0 ?xeo_6_0 ?xeo_7_0 ?xeo_8_0 ?xeo_9_0 ?u3 ?p3 ?h3 ?n3 ?u4 ?p4 ?h4 ?n4 ?u6 ?p6 ?h6 ?n6 ?z_ValueError ?z_abs ?z_all ?z_bool ?z_int ?z_isinstance ?z_len ?z_list ?z_max ?z_min ?z_range ?z_repr ?z_sorted ?z_tuple
    (case xac_E0 => (first | k_is | kernel_rfl))
    (case xac_E1 => (first | k_is | kernel_rfl))
    (case xac_E2 => (first | k_is | kernel_rfl))
    (case xac_E3 => (first | k_is | kernel_rfl))
    (case xac_E4 => (first | k_is | kernel_rfl))
    (case xac_E5 => (first | k_is | kernel_rfl))
    (case xac_E6 => (first | k_is | kernel_rfl))
    (case xac_E7 => (first | k_is | kernel_rfl))
    (case xac_E8 => (first | k_is | kernel_rfl))
    (case xac_E9 => (first | k_is | kernel_rfl))
    (case a0 => k_is)
    (case l0 => k_is)
    (case e0 => k_is)
    (case k0 => k_is)
    (case a1 => k_is)
    (case l1 => k_is)
    (case e1 => k_is)
    (case k1 => k_is)
    (case a2 => k_is)
    (case l2 => k_is)
    (case e2 => k_is)
    (case k2 => k_is)
    (case a3 => k_is)
    (case l3 => k_is)
    (case e3 => k_is)
    (case k3 => k_is)
    (case a4 => k_is)
    (case l4 => k_is)
    (case e4 => k_is)
    (case k4 => k_is)
    (case a5 => k_is)
    (case l5 => k_is)
    (case e5 => k_is)
    (case k5 => k_is)
    (case a6 => k_is)
    (case l6 => k_is)
    (case e6 => k_is)
    (case k6 => k_is)
    (case a7 => k_is)
    (case l7 => k_is)
    (case e7 => k_is)
    (case k7 => k_is)
    (case a8 => k_is)
    (case l8 => k_is)
    (case e8 => k_is)
    (case k8 => k_is)
    (case a9 => k_is)
    (case l9 => k_is)
    (case e9 => k_is)
    (case k9 => k_is)
    (case a10 => k_is)
    (case l10 => k_is)
    (case e10 => k_is)
    (case k10 => k_is)
    (case a11 => k_is)
    (case l11 => k_is)
    (case e11 => k_is)
    (case k11 => k_is)
    (case a12 => k_is)
    (case l12 => k_is)
    (case e12 => k_is)
    (case k12 => k_is)
    (case a13 => k_is)
    (case l13 => k_is)
    (case e13 => k_is)
    (case k13 => k_is)
    (case a14 => k_is)
    (case l14 => k_is)
    (case e14 => k_is)
    (case k14 => k_is)
    (case a15 => k_is)
    (case l15 => k_is)
    (case e15 => k_is)
    (case k15 => k_is)
    (case a16 => k_is)
    (case l16 => k_is)
    (case e16 => k_is)
    (case k16 => k_is)
    (case a17 => k_is)
    (case l17 => k_is)
    (case e17 => k_is)
    (case k17 => k_is)
    (case xx_0 => (first | k_is | k_exc | kernel_rfl))
    (case xk_0 => (first | k_is | kernel_rfl))
    (case xb_0 => (first | k_is | kernel_rfl))
    (case xt_0 => (first | k_is | kernel_rfl))
    (case xx_1 => (first | k_is | k_exc | kernel_rfl))
    (case xk_1 => (first | k_is | kernel_rfl))
    (case xb_1 => (first | k_is | kernel_rfl))
    (case xt_1 => (first | k_is | kernel_rfl))
    (case xx_2 => (first | k_is | k_exc | kernel_rfl))
    (case xk_2 => (first | k_is | kernel_rfl))
    (case xb_2 => (first | k_is | kernel_rfl))
    (case xt_2 => (first | k_is | kernel_rfl))
    (case xx_3 => (first | k_is | k_exc | kernel_rfl))
    (case xk_3 => (first | k_is | kernel_rfl))
    (case xb_3 => (first | k_is | kernel_rfl))
    (case xt_3 => (first | k_is | kernel_rfl))
    (case xx_4 => (first | k_is | k_exc | kernel_rfl))
    (case xk_4 => (first | k_is | kernel_rfl))
    (case xb_4 => (first | k_is | kernel_rfl))
    (case xt_4 => (first | k_is | kernel_rfl))
    (case xx_5 => (first | k_is | k_exc | kernel_rfl))
    (case xk_5 => (first | k_is | kernel_rfl))
    (case xb_5 => (first | k_is | kernel_rfl))
    (case xt_5 => (first | k_is | kernel_rfl))
    (case xx_6 => (first | k_is | k_exc | kernel_rfl))
    (case xk_6 => (first | k_is | kernel_rfl))
    (case xb_6 => (first | k_is | kernel_rfl))
    (case xt_6 => (first | k_is | kernel_rfl))
    (case xx_7 => (first | k_is | k_exc | kernel_rfl))
    (case xk_7 => (first | k_is | kernel_rfl))
    (case xb_7 => (first | k_is | kernel_rfl))
    (case xt_7 => (first | k_is | kernel_rfl))
    (case xx_8 => (first | k_is | k_exc | kernel_rfl))
    (case xk_8 => (first | k_is | kernel_rfl))
    (case xb_8 => (first | k_is | kernel_rfl))
    (case xt_8 => (first | k_is | kernel_rfl))
    (case xx_9 => (first | k_is | k_exc | kernel_rfl))
    (case xk_9 => (first | k_is | kernel_rfl))
    (case xb_9 => (first | k_is | kernel_rfl))
    (case xt_9 => (first | k_is | kernel_rfl))
    (case xe_0_0 => (first | k_is | kernel_rfl))
    (case xe_0_1 => (first | k_is | kernel_rfl))
    (case xe_0_2 => (first | k_is | kernel_rfl))
    (case xe_0_3 => (first | k_is | kernel_rfl))
    (case xe_0_4 => (first | k_is | kernel_rfl))
    (case xe_0_5 => (first | k_is | kernel_rfl))
    (case xe_0_6 => (first | k_is | kernel_rfl))
    (case xe_0_7 => (first | k_is | kernel_rfl))
    (case xe_0_8 => (first | k_is | kernel_rfl))
    (case xe_0_9 => (first | k_is | kernel_rfl))
    (case xe_1_0 => (first | k_is | kernel_rfl))
    (case xe_1_1 => (first | k_is | kernel_rfl))
    (case xe_1_2 => (first | k_is | kernel_rfl))
    (case xe_1_3 => (first | k_is | kernel_rfl))
    (case xe_1_4 => (first | k_is | kernel_rfl))
    (case xe_1_5 => (first | k_is | kernel_rfl))
    (case xe_1_6 => (first | k_is | kernel_rfl))
    (case xe_1_7 => (first | k_is | kernel_rfl))
    (case xe_1_8 => (first | k_is | kernel_rfl))
    (case xe_1_9 => (first | k_is | kernel_rfl))
    (case xeg_0 => (first | k_is | kernel_rfl))
    (case xek_0 => (first | k_is | kernel_rfl))
    (case xed_0 => (first | k_is | kernel_rfl))
    (case xea_0 => (first | k_is | kernel_rfl))
    (case xen_0 => (first | k_is | kernel_rfl))
    (case xet_0 => (first | k_is | kernel_rfl))
    (case xem_0 => (first | k_is | kernel_rfl))
    (case xeq_0_0 => (first | k_is | kernel_rfl))
    (case xeq_0_1 => (first | k_is | kernel_rfl))
    (case xeq_0_2 => (first | k_is | kernel_rfl))
    (case xeq_0_3 => (first | k_is | kernel_rfl))
    (case xeq_0_4 => (first | k_is | kernel_rfl))
    (case xeq_0_5 => (first | k_is | kernel_rfl))
    (case xev_0 => (first | k_is | kernel_rfl))
    (case xeo_0_0 => (first | k_is | kernel_rfl))
    (case xeo_2_0 => (first | k_is | kernel_rfl))
    (case xeo_3_0 => (first | k_is | kernel_rfl))
    (case xeo_4_0 => (first | k_is | kernel_rfl))
    (case xeo_5_0 => (first | k_is | kernel_rfl))
    (case xeo_6_0 => (first | k_is | kernel_rfl))
    (case xeo_7_0 => (first | k_is | kernel_rfl))
    (case xeo_8_0 => (first | k_is | kernel_rfl))
    (case xeo_9_0 => (first | k_is | kernel_rfl))
    (case u3 => k_is)
    (case p3 => rfl)
    (case h3 => kernel_rfl)
    (case n3 => kernel_rfl)
    (case u4 => k_is)
    (case p4 => rfl)
    (case h4 => kernel_rfl)
    (case n4 => kernel_rfl)
    (case u6 => k_is)
    (case p6 => rfl)
    (case h6 => kernel_rfl)
    (case n6 => kernel_rfl)
    (case z_ValueError => k_is)
    (case z_abs => k_is)
    (case z_all => k_is)
    (case z_bool => k_is)
    (case z_int => k_is)
    (case z_isinstance => k_is)
    (case z_len => k_is)
    (case z_list => k_is)
    (case z_max => k_is)
    (case z_min => k_is)
    (case z_range => k_is)
    (case z_repr => k_is)
    (case z_sorted => k_is)
    (case z_tuple => k_is)

