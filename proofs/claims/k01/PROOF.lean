import PyProof.Rows.All
import Wide.All
import OpenK.AllK
import Wide.FinOn
import KE.KStateDown
import KE.KIsAll
import KE.KTryMore
import PyProof.ReprRoads
import HandS.ForMost
import HandS.Defaults
import HandS.ExcInit
import HandS.ExcField
import HandS.ExcIs
import HandS.IsInst
import HandS.WideBits
import HandS.Zip
import HandS.ForExc
import HandS.ExcOwn
import HandS.ExcValue
import HandS.TryMany
import HandS.HotCalls
import HandS.CallSlots
import HandS.HeadHook1
import HandS.HeadHook2
import HandS.Head0
import HandS.Head1
import HandS.Head2
import HandS.HeadEnd
import PySem.Challenge.RW_bykindalone_k01_errors_each_of_its_own
set_option Elab.async false
set_option linter.all false
set_option maxRecDepth 100000
set_option maxHeartbeats 4100000
namespace KB
open PySem L2 PySem.Spec PyProof.Rows
/-! ### defs that show things: promised where nothing is being shown around the call -/
def RunG (P : Program) (w : World) (K : PySem.W.Frag) (mg : Str → Option Value) (base : Heap) (k : Nat) (f : Addr) (fd : FuncData) (ps : List Str) (sp : Sp) : Prop :=
  ∀ (A : Around) (outer : List Env) (s : Shared) (H : Hp) (args : Args) (us : List Value) (vs : List V) (Q : VK),
    A.guards = some [] → Room k A → Env0 P w K mg base A outer s H → BindsTo s fd args (ps.zip us) → Vals vs us → sp vs H Q E0 →
      codeAny (model P w) A (.call (.ref f) args) (fun r z => CR CX0 outer P w H s Q E0 r z) s
structure FnG (P : Program) (w : World) (K : PySem.W.Frag) (mg : Str → Option Value) (base : Heap) (k : Nat) (f : Addr) (fd : FuncData) (ps : List Str) (sp : Sp) : Prop where
  many : ∀ vs H Q, sp vs H Q E0 → vs.length = ps.length
  go : RunG P w K mg base k f fd ps sp
/-- what any promise is worth there -/
theorem FnG.of {P : Program} {w : World} {K : PySem.W.Frag} {mg : Str → Option Value} {base : Heap} {k : Nat} {f : Addr} {fd : FuncData} {ps : List Str} {sp : Sp}
    (F : FnOk P w K mg base CX0 k f fd ps sp) : FnG P w K mg base k f fd ps sp :=
  ⟨fun vs H Q h => F.len vs H Q _ h, fun A o s H a us vs Q _ hr e b v h => F.run A o s H a us vs Q _ hr e b v h⟩
section
variable {X : Cx} {k : Nat} {f : Addr} {fd : FuncData} {ps : List Str} {sp : Sp} {dvs : List V} {ds : List Value}
theorem runG {pins : List (Addr × Obj)} {σ : L2.St} {H : Hp} {s : Shared} {Q : VK} {us : List Value} {vs : List V}
    (F : FnG X.prog X.w X.K X.mg X.base k f fd ps sp) (hg : X.A.guards = some []) (hr : Room k X.A) (hb : Binds X.K fd ps ds) (hd : Vals dvs ds)
    (I : Inv X pins σ H s) (r : Vals vs us) (h : sp (vs ++ dvs) H Q E0) : wpAny (model X.prog X.w) X.A (call (.ref f) us) (EP X pins σ Q) X.xe s := by
  have both := r.append hd
  have hl : (us ++ ds).length = ps.length := both.length.symm.trans (F.many _ _ _ h)
  have body := F.go X.A X.stack s H ⟨us, []⟩ _ _ Q hg hr I.env0 (hb s us I.kIn hl) both h
  refine wpAny_call (codeAny_mono body fun r z hq => ?_)
  match r, hq with
  | .ok (.ret u), hq => exact I.after hq
/-- f(e, ..) of such a def -/
theorem pe_callG {x : Str} {p pos : Pos} {e : Expr} {es : List Expr} {t : TA} (F : FnG X.prog X.w X.K X.mg X.base k f fd ps sp) (hgd : X.A.guards = some []) (hr : Room k X.A)
    (hg : Gl X x) (hm : X.mg x = some (.ref f)) (hk : PySem.W.keepIn X.K (.ref f) = true) (hb : Binds X.K fd ps ds) (hd : Vals dvs ds) (ha : PA X (e :: es) t) (hdb : (x == ("__debug__" : Str)) = false := by decide) (he : starEach (e :: es) X.env = (false, eval e X.env) :: starEach es X.env := by rfl)
    (hpl : (backTo pos (starEach es X.env)).any (·.1) = false := by rfl) : PE X (.Call (.Name x p) (e :: es) [] pos) (tCall sp dvs E0 t) :=
  ⟨fun pins s σ H Q I h => wpAny_Call_Name_kw (ld_glob I hg hm (PySem.W.callWith_K (h₀ := X.base) I.ok.mod.kin hk
    (thn (ha.run pos pins s σ H _ I h) fun us s1 ⟨vs, H1, I1, r, q⟩ => ⟨I1.kIn, runG F hgd hr hb hd I1 r q⟩) he hpl) hdb)⟩
end
/-- THE RULE for such a def, by its body -/
theorem okG {P : Program} {w : World} {K : PySem.W.Frag} {mg : Str → Option Value} {base : Heap} {x qual : Str} {params : Arguments} {body : List Stmt} {scope : Scope} {dvs : List V} {kws : List (Str × V)}
    {f : Addr} {fd : FuncData} {N ps : List Str} {k : Nat} {sp : Sp} (F : FunD K x qual params body scope dvs kws f fd) (S : FnScope N ps scope)
    (many : ∀ vs H Q, sp vs H Q E0 → vs.length = ps.length)
    (hbody : ∀ (cdv : Value) (A : Around) (outer : List Env) (s : Shared) (H : Hp) (vs : List V) (Q : VK),
      (A.deeper (envOfC qual scope s.heap.objs.size f cdv)).guards = some [] → Room k (A.deeper (envOfC qual scope s.heap.objs.size f cdv)) → sp vs H Q E0 →
      ∃ t, PSs (cxOf CX0 P w K mg base N qual scope f cdv A outer s H E0).nox body t ∧ t { nx := fun _ H' => Q .non H', rt := Q } (start N vs) H) :
    FnG P w K mg base (k + 1) f fd ps sp := by
  obtain ⟨oc, od, dV, kV, doc, pm, an, cdv, ct, osl, rfl, lk, hcd, _, _⟩ := F.ex; refine ⟨many, ?_⟩
  intro A outer s H args us vs Q hgd hr e0 hb r hsp
  have old : ∀ b o, base.get? b = some o → s.heap.get? b = some o := fun b o e => (e0.bs b o e).1
  have KX : K.In s.heap := e0.mod.kin.keeps old
  have slots : ∀ y ∈ ps.zip us, scope.names.lookup y.1 = some .local ∨
      (scope.names.lookup y.1 = some .cell ∧ ((cellsFrom (s.heap.objs.size + 1) scope.names []).lookup y.1).isSome = true) := by
    intro y hy
    cases S.par y.1 (List.of_mem_zip (show (y.1, y.2) ∈ ps.zip us from hy)).1 with
    | inl q => exact .inl q
    | inr q => exact .inr ⟨q, PySem.W.cellsFrom_some _ _ _ (.inl q)⟩
  refine codeAny_call_function hr.depth (KX _ _ lk) rfl S.co S.gen rfl (PySem.W.codeRec_of KX hcd) (hb _ _ _ _ ?_); refine wpAny_newFunctionEnv_cells S.kind slots fun env he s1 ic => ?_
  subst he
  refine ⟨(e0.mod.nolimit.keeps old).keeps ic.toInCall.keep, codeAny_func ?_⟩
  obtain ⟨t, ht, hq⟩ := hbody cdv A outer s H vs Q hgd (hr.deeper _) hsp
  have I : Inv (cxOf CX0 P w K mg base N qual scope f cdv A outer s H E0) [] (start N vs) H s1 := inv_start S hr.hd e0 (many _ _ _ hsp) r ic
  refine wpAny_mono (ht.nox.run [] s1 (start N vs) H _ I hq) (fun fl s' hs => ?_) fun e s' hs => hs
  match fl, hs with
  | .ret u, ⟨v, σ', H', J, rv, q⟩ => exact ⟨v, H', J.os, J.bare, J.base, J.hok, rv, q⟩
  | .next, ⟨σ', H', J, q⟩ => exact ⟨V.non, H', J.os, J.bare, J.base, J.hok, rfl, q⟩
  | .brk, ⟨_, _, _, q⟩ => exact q.elim
  | .cont, ⟨_, _, _, q⟩ => exact q.elim
/-! ### the law's own call -/
theorem law_callG {P : Program} {w : World} {K : PySem.W.Frag} {mg mb : Str → Option Value} {k : Nat} {fa a : Addr} {fd : FuncData} {x : Str} {sp : Sp} {z : Shared} {vs : List Value} {ns : List Int}
    (KX : K.In z.heap) (hns : z.heap.Ns mainGlobals mg) (hb : z.heap.Ns builtinsNs mb) (hbb : ∀ x : Str, x ≠ "__name__" → mb x = bootBuiltins x) (hlim : z.heap.NoLimit) (hg : z.gens = #[])
    (ha : z.heap.get? a = some { cls := .type "list", data := .seq vs.toArray }) (hi : IntsAre vs ns) (hl : ns.length ≤ sizeLine) (hr : Room k callerA)
    (F : ∀ base : Heap, K.In base → base.Ns mainGlobals mg → FnG P w K mg base k fa fd [x] sp) (hbind : ∀ (s : Shared) (u : Value), BindsTo s fd ⟨[u], []⟩ [(x, u)])
    (hsp : ∀ H : Hp, Only H → SqL K H a (ns.map V.int) → sp [.ref a] H (fun v _ => v = .bl true) E0) :
    codeAny (model P w) callerA (.call (.ref fa) ⟨[.ref a], []⟩) (fun r s' => r = .ok (.ret (.bool true)) ∧ OldK z.heap s'.heap ∧ s'.os = z.os ∧ AllBare s'.gens) z := by
  have rv := vals_ints hi
  have many := hi.length
  have core : ∀ H : Hp, Only H → SqL K H a (ns.map V.int) → HOk P w H z.heap → (∀ b, H b ≠ none → b = a) → (H a ≠ none → K.lookup a = none) →
      codeAny (model P w) callerA (.call (.ref fa) ⟨[.ref a], []⟩) (fun r s' => r = .ok (.ret (.bool true)) ∧ OldK z.heap s'.heap ∧ s'.os = z.os ∧ AllBare s'.gens) z := by
    intro H hO hS hok hA hK
    have atA : ∀ {b : Addr}, H b ≠ none → z.heap.get? b = some { cls := .type "list", data := .seq vs.toArray } := fun {b} q => by rw [hA b q]; exact ha
    have dictFree : ∀ {b : Addr} {o : Obj} {es : Array DictEntry} {ep : Nat}, z.heap.get? b = some o → o.data = .dict es ep → H b = none := by
      intro b o es ep e d
      by_cases q : H b = none
      · exact q
      · rw [atA q] at e
        cases e
        cases (show Data.seq vs.toArray _ = Data.dict es ep from d)
    have nsK : ∀ {b : Addr} {m : Str → Option Value}, z.heap.Ns b m → (hidT z.heap H).Ns b m :=
      fun ⟨o, es, ep, e, d, r⟩ => ⟨o, es, ep, hidT_get e (dictFree e d), d, r⟩
    have inB : K.In (hidT z.heap H) := by
      intro b o e
      refine hidT_get (KX b o e) ?_
      by_cases q : H b = none
      · exact q
      · have eb := hA b q
        subst eb
        rw [hK q] at e
        cases e
    obtain ⟨mc, lim1, lim2⟩ := hlim
    have M : Mod K mg (hidT z.heap H) := ⟨inB, nsK hns, ⟨mb, nsK hb, hbb⟩, ⟨mc, nsK lim1, lim2⟩⟩
    have e0 : Env0 P w K mg (hidT z.heap H) callerA [] z H :=
      { frames := rfl, mod := M, bs := fun b o e => of_hidT e, bsz := Nat.le_of_eq (hidT_size _ _), funs := trivial, frf := fun b q => (by cases (show b ∈ ([] : List Addr) from q)), hok := hok, bare := .of_eq hg }
    have run := (F _ inB (nsK hns)).go callerA [] z H ⟨[.ref a], []⟩ [.ref a] [.ref a] (fun v _ => v = .bl true) rfl hr e0 (hbind z (.ref a)) (.cons rfl .nil) (hsp H hO hS)
    refine codeAny_mono run fun r s' h => ?_
    match r, h with
    | .ok (.ret u), ⟨v, H', os, bare, un, hok', r', q⟩ =>
      subst q
      obtain rfl : u = Value.bool true := r'; refine ⟨rfl, OldK.of_keep fun b o e => ?_, os, bare⟩
      by_cases q : H b = none
      · exact un.keep b o e q (fun y => by cases (show b ∈ ([] : List Addr) from y)) (fun y => by cases y)
      · rcases hO b with y | ⟨ob, xs, y⟩
        · exact absurd y q
        · have g1 := (hok b _ y).1
          have g2 := (hok' b _ (un.frzs b ob _ y)).1
          rw [e] at g1
          cases g1
          exact g2
  by_cases hk : K.lookup a = none
  · have at1 : ∀ b, (if b = a then some (HO.frz { cls := .type "list", data := .seq vs.toArray } (.lst (ns.map V.int))) else none) ≠ none → b = a := fun b q => by
      by_cases hb : b = a
      · exact hb
      · exact absurd (if_neg hb) q
    refine core (fun b => if b = a then some (.frz { cls := .type "list", data := .seq vs.toArray } (.lst (ns.map V.int))) else none) (fun b => ?_) (.inl (.inr ⟨{ cls := .type "list", data := .seq vs.toArray }, if_pos rfl⟩)) (fun b u q => ?_) at1 fun _ => hk
    · by_cases hb : b = a
      · exact Or.inr ⟨_, _, if_pos hb⟩
      · exact .inl (if_neg hb)
    · have hb := at1 b (fun y => nomatch q.symm.trans y)
      have q2 := (if_pos hb).symm.trans q
      cases q2
      subst hb; exact ⟨ha, by rw [List.length_map]; exact hl, vs, _, rv, ha⟩
  · cases hk2 : K.lookup a with
    | none => exact absurd hk2 hk
    | some o =>
      have e := KX a o hk2
      rw [ha] at e
      cases e
      refine core (fun _ => none) (fun _ => .inl rfl) (.inr ⟨_, vs.toArray, _, hk2, rfl, rfl, rfl, by rw [List.size_toArray, many]; exact hl, by simpa using rv⟩) (fun b u q => ?_) (fun b q => absurd rfl q) fun q => absurd rfl q
      cases (show (none : Option HO) = some u from q)
theorem walk_ofG {l : PySem.W.OpenLaw} {n k : Nat} {q : Program} {loose : List Str} {XP : (Str → Option Value) → Heap → Prop} {YP : World → Heap → Prop} {d : DefRec} {x : Str} (hn : l.most = some n) (hn2 : n ≤ sizeLine) (hdf : d.params.defaults = []) (hr : Room k callerA) (F : ∀ (w : World) (mg : Str → Option Value) (fa : Addr) (h : Heap), YP w h → h.Ns mainGlobals mg → mg d.name = some (.ref fa) → ∃ (K : PySem.W.Frag) (fd : FuncData) (sp : Sp), K.In h ∧ (∀ (s : Shared) (u : Value), BindsTo s fd ⟨[u], []⟩ [(x, u)]) ∧
        (∀ (H : Hp) (a : Addr) (ns : List Int), ns.length ≤ n → Only H → SqL K H a (ns.map V.int) → sp [.ref a] H (fun v _ => v = .bl true) E0) ∧
        ∀ base : Heap, K.In base → base.Ns mainGlobals mg → FnG l.prog w K mg base k fa fd [x] sp) : PySem.W.WalkO q loose XP YP l.row.toRowW d [] (fun f vs => PySem.call f vs) := by
  refine Att.attach_call hn hdf fun w s0 s1 mg mb fa o pm cd doc a vs ns G Y ho hd hcd hmg hobj hints hlen hg => ?_
  obtain ⟨K, fd, sp, KX, hb, hsp, hF⟩ := F w mg fa _ Y G.T.g hmg; exact law_callG KX G.T.g G.T.b G.T.builtins G.T.nolimit hg hobj hints (Nat.le_trans hlen hn2) hr hF hb (fun H hO hS => hsp H a ns hlen hO hS)
end KB
namespace KB
open PySem L2 PySem.Spec PyProof.Rows
/-! ### data in the tracked heap, at addresses of which F holds -/
mutual
inductive Dt (F : Addr → Prop) (H : Hp) : V → PyData → Prop
  | non : Dt F H .non .none
  | bl (b : Bool) : Dt F H (.bl b) (.bool b)
  | int (i : Int) : Dt F H (.int i) (.int i)
  | str (x : Str) : Dt F H (.str x) (.str x)
  | lst {a : Addr} {xs : List V} {ds : List PyData} (f : F a) (h : H a = some (.lst xs)) (r : DtA F H xs ds) : Dt F H (.ref a) (.list ds)
  | tup {a : Addr} {xs : List V} {ds : List PyData} (f : F a) (h : H a = some (.tup xs)) (r : DtA F H xs ds) : Dt F H (.ref a) (.tuple ds)
  | emp {a : Addr} (f : F a) (h : H a = some (.dK [])) : Dt F H (.ref a) (.dict [])
inductive DtA (F : Addr → Prop) (H : Hp) : List V → List PyData → Prop
  | nil : DtA F H [] []
  | cons {v : V} {vs : List V} {d : PyData} {ds : List PyData} (h : Dt F H v d) (r : DtA F H vs ds) : DtA F H (v :: vs) (d :: ds)
end
section
variable {F G : Addr → Prop} {H H' : Hp}
mutual
theorem Dt.move (k : ∀ a o, F a → H a = some o → G a ∧ H' a = some o) : ∀ {v : V} {d : PyData}, Dt F H v d → Dt G H' v d
  | _, _, .non => .non
  | _, _, .bl b => .bl b
  | _, _, .int i => .int i
  | _, _, .str x => .str x
  | _, _, .lst f h r => .lst (k _ _ f h).1 (k _ _ f h).2 (DtA.move k r)
  | _, _, .tup f h r => .tup (k _ _ f h).1 (k _ _ f h).2 (DtA.move k r)
  | _, _, .emp f h => .emp (k _ _ f h).1 (k _ _ f h).2
theorem DtA.move (k : ∀ a o, F a → H a = some o → G a ∧ H' a = some o) : ∀ {vs : List V} {ds : List PyData}, DtA F H vs ds → DtA G H' vs ds
  | _, _, .nil => .nil
  | _, _, .cons h r => .cons (Dt.move k h) (DtA.move k r)
end
theorem DtA.length : ∀ {vs : List V} {ds : List PyData}, DtA F H vs ds → vs.length = ds.length
  | _, _, .nil => rfl
  | _, _, .cons _ r => congrArg (· + 1) r.length
theorem DtA.get : ∀ {vs : List V} {ds : List PyData} {i : Nat} {v : V}, DtA F H vs ds → vs[i]? = some v → ∃ d, ds[i]? = some d ∧ Dt F H v d
  | _, _, _, _, DtA.nil, e => by simp at e
  | _, _, 0, _, .cons h _, e => by
    simp at e
    subst e
    exact ⟨_, rfl, h⟩
  | _, _, i + 1, v, .cons _ r, e => by
    obtain ⟨d, e1, h⟩ := DtA.get (i := i) r (by simpa using e)
    exact ⟨d, by simpa using e1, h⟩
theorem DtA.append : ∀ {vs ws : List V} {ds es : List PyData}, DtA F H vs ds → DtA F H ws es → DtA F H (vs ++ ws) (ds ++ es)
  | _, _, _, _, .nil, s => s
  | _, _, _, _, .cons h r, s => .cons h (DtA.append r s)
theorem DtA.set {v : V} {d : PyData} (h : Dt F H v d) : ∀ {vs : List V} {ds : List PyData} (i : Nat), DtA F H vs ds → DtA F H (vs.set i v) (ds.set i d)
  | _, _, _, .nil => .nil
  | _, _, 0, .cons _ r => .cons h r
  | _, _, i + 1, .cons q r => .cons q (DtA.set h i r)
end
/-! ### what is shown of it -/
def SysIn (K : PySem.W.Frag) : Prop := ∃ o, K.lookup sysModules = some o
section
variable {X : Cx} {pins : List (Addr × Obj)} {σ : L2.St} {H : Hp} {s : Shared} {F : Addr → Prop}
theorem sys_none (I : Inv X pins σ H s) (hS : SysIn X.K) : H sysModules = none := by
  obtain ⟨o, e⟩ := hS
  exact (I.bs _ _ (I.ok.mod.kin _ _ e)).2
theorem sys_ne (I : Inv X pins σ H s) (hS : SysIn X.K) {a : Addr} {o : HO} (h : H a = some o) : sysModules ≠ a := fun e => by
  rw [← e, sys_none I hS] at h
  cases h
mutual
theorem Dt.reads (I : Inv X pins σ H s) (hS : SysIn X.K) : ∀ {v : V} {d : PyData} {u : Value}, Dt F H v d → RelV v u → ∃ as, Reads s.heap u d as ∧ sysModules ∉ as
  | _, _, _, .non, r => by
    cases r
    exact ⟨[], .none, by simp⟩
  | _, _, _, .bl b, r => by
    cases r
    exact ⟨[], .bool b, by simp⟩
  | _, _, _, .int i, r => by
    obtain ⟨t, rfl⟩ := r
    exact ⟨[], .int i t, by simp⟩
  | _, _, _, .str x, r => by
    obtain ⟨t, rfl⟩ := r
    exact ⟨[], .str x t, by simp⟩
  | _, _, _, .lst (a := a) (xs := xs) f h q, r => by
    cases r
    obtain ⟨_, its, n, rv, ho⟩ := (show ObjOk X.prog X.w H s.heap a (.lst xs) from I.hok a _ h)
    obtain ⟨as, hr, hn⟩ := DtA.reads I hS q rv
    exact ⟨a :: as, Reads.list ho rfl rfl (by simpa using hr), fun z => (List.mem_cons.mp z).elim (sys_ne I hS h) hn⟩
  | _, _, _, .tup (a := a) (xs := xs) f h q, r => by
    cases r
    obtain ⟨_, its, rv, o, ho, hc, n, hd⟩ := (show ObjOk X.prog X.w H s.heap a (.tup xs) from I.hok a _ h)
    obtain ⟨as, hr, hn⟩ := DtA.reads I hS q rv
    exact ⟨as, Reads.tuple ho hc hd (by simpa using hr), hn⟩
  | _, _, _, .emp (a := a) f h, r => by
    cases r
    obtain ⟨_, _, vs, kv, o, es, ep, ho, hx, hd, _, hm, _⟩ := (show ObjOk X.prog X.w H s.heap a (.dK []) from I.hok a _ h)
    cases kv
    have he : es.toList = [] := by
      have hl := PySem.Pairs.length hm
      exact List.length_eq_zero_iff.mp (by simpa using hl)
    refine ⟨[a], Reads.dict (as := []) (bs := []) ho hx.1 hd (by rw [he]; exact .nil) (by rw [he]; exact .nil), fun z => ?_⟩
    exact sys_ne I hS h (List.mem_singleton.mp z)
theorem DtA.reads (I : Inv X pins σ H s) (hS : SysIn X.K) : ∀ {vs : List V} {ds : List PyData} {us : List Value}, DtA F H vs ds → Vals vs us → ∃ as, ReadsAll s.heap us ds as ∧ sysModules ∉ as
  | _, _, _, .nil, r => by
    cases r
    exact ⟨[], .nil, by simp⟩
  | _, _, _, .cons h q, r => by
    cases r with
    | cons r1 r2 =>
      obtain ⟨as, h1, n1⟩ := Dt.reads I hS h r1
      obtain ⟨bs, h2, n2⟩ := DtA.reads I hS q r2
      exact ⟨as ++ bs, .cons h1 h2, fun z => (List.mem_append.mp z).elim n1 n2⟩
end
/-- repr(x), x any such data -/
def rRepr : List V → Hp → VK → Prop := fun xs H Q => ∃ (F : Addr → Prop) (v : V) (d : PyData), xs = [v] ∧ Dt F H v d ∧ d.showable = true ∧ d.depth ≤ 60 ∧ d.shown.length ≤ sizeLine ∧ Q (.str d.shown) H
theorem call_repr {k : Nat} (hS : SysIn X.K) (hg : X.A.guards = some []) (hr : Room k X.A) : CallR X (.builtin "repr") rRepr := by
  intro pins s σ H xs us Q I r h; obtain ⟨F, v, d, rfl, hd, sh, dp, ln, q⟩ := h
  obtain ⟨u, rfl, ru⟩ := vals1 r; obtain ⟨as, rd, hn⟩ := hd.reads I hS ru
  have room := hr.units
  cases rd with
  | none =>
    simp only [PyData.shown] at q
    exact PySem.P.repr_of_none ⟨.str _, H, I.tok _, ⟨_, rfl⟩, q⟩
  | bool b =>
    simp only [PyData.shown] at q
    exact PySem.P.repr_of_bool ⟨.str _, H, I.tok _, ⟨_, rfl⟩, q⟩
  | int i t =>
    simp only [PyData.shown] at q
    exact PySem.P.repr_of_int (by simpa [PyData.showable] using sh) ⟨.str _, H, I.tok _, ⟨_, rfl⟩, q⟩
  | str x t =>
    simp only [PyData.shown] at q ln
    exact PySem.P.repr_of_str ⟨.str _, H, I.tok _, ⟨_, rfl⟩, q⟩ ln
  | list h1 h2 h3 h4 => exact repr_of_reads' (.list h1 h2 h3 h4) sh (fun _ => hn) hg (by omega) (fun _ _ e => e) (fun h' u tk k => ⟨.str _, H, I.kept k, ⟨_, rfl⟩, q⟩) ln
  | tuple h1 h2 h3 h4 => exact repr_of_reads' (.tuple h1 h2 h3 h4) sh (fun _ => hn) hg (by omega) (fun _ _ e => e) (fun h' u tk k => ⟨.str _, H, I.kept k, ⟨_, rfl⟩, q⟩) ln
  | dict h1 h2 h3 h4 h5 => exact repr_of_reads' (.dict h1 h2 h3 h4 h5) sh (fun _ => hn) hg (by omega) (fun _ _ e => e) (fun h' u tk k => ⟨.str _, H, I.kept k, ⟨_, rfl⟩, q⟩) ln
end
end KB
namespace KB
open PySem L2 PySem.Spec PyProof.Rows
/-! ### the well: the source of a world's draws -/
/-- at w a well that was asked c times -/
def Wl (H : Hp) (w : Addr) (c : Int) : Prop := ∃ n m z : Int, H w = some (.lst [.int n, .int m, .int c, .int z]) ∧ 0 ≤ n ∧ 0 ≤ m ∧ m < 2147483587 ∧ 0 ≤ c
/-- all but w is as it was -/
def Kw (w : Addr) (H H' : Hp) : Prop := ∀ b o, b ≠ w → H b = some o → H' b = some o
theorem Kw.refl (w : Addr) (H : Hp) : Kw w H H := fun _ _ _ h => h
theorem Kw.trans {w : Addr} {H H1 H2 : Hp} (a : Kw w H H1) (b : Kw w H1 H2) : Kw w H H2 := fun c o n h => b c o n (a c o n h)
theorem Kw.same {w : Addr} {H H' : Hp} (a : Same H H') : Kw w H H' := fun b o _ h => a b o h
theorem Kw.put {w : Addr} {H : Hp} {o : HO} : Kw w H (upd H w o) := fun b u n h => by rw [upd_ne n]; exact h
theorem Kw.new {w p : Addr} {H : Hp} {o : HO} (h : H p = none) : Kw w H (upd H p o) := fun b u _ q => by rw [upd_ne (ne_of_none q h)]; exact q
theorem Same.new {p : Addr} {H : Hp} {o : HO} (h : H p = none) : Same H (upd H p o) := fun b u q => by rw [upd_ne (ne_of_none q h)]; exact q
theorem Wl.ne {H : Hp} {w p : Addr} {c : Int} (h : Wl H w c) (q : H p = none) : w ≠ p := by
  obtain ⟨n, m, z, e, _⟩ := h
  exact ne_of_none e q
theorem Wl.same {H H' : Hp} {w : Addr} {c : Int} (h : Wl H w c) (k : Same H H') : Wl H' w c := by
  obtain ⟨n, m, z, e, r⟩ := h
  exact ⟨n, m, z, k _ _ e, r⟩
theorem Wl.some {H : Hp} {w : Addr} {c : Int} (h : Wl H w c) : H w ≠ none := by
  obtain ⟨n, m, z, e, _⟩ := h
  rw [e]
  exact fun q => nomatch q
/-- draw(well, many) -/
def spDraw : Sp := fun vs H Q _ => ∃ (w : Addr) (k c : Int), vs = [.ref w, .int k] ∧ Wl H w c ∧ c < 2 ^ 60 ∧ 0 < k ∧ k < 2 ^ 29 ∧
  ∀ (r c' : Int) (H' : Hp), 0 ≤ r → r < k → Kw w H H' → Wl H' w c' → c' ≤ c + 1 → Q (.int r) H'
/-- the four places of a well -/
theorem at0 {a b c d : V} : atI [a, b, c, d] (0 : Int) = some a := atI_nat (j := 0) rfl
theorem at1 {a b c d : V} : atI [a, b, c, d] (1 : Int) = some b := atI_nat (j := 1) rfl
theorem at2 {a b c d : V} : atI [a, b, c, d] (2 : Int) = some c := atI_nat (j := 2) rfl
theorem at3 {a b c d : V} : atI [a, b, c, d] (3 : Int) = some d := atI_nat (j := 3) rfl
end KB
namespace KB
open PySem L2 PySem.Spec PyProof.Rows
/-! ### expressions that lay data: all that was stands, the data are new -/
abbrev New (H : Hp) : Addr → Prop := fun a => H a = none
def DE (te : TE) (d : PyData) : Prop := ∀ (σ : L2.St) (H : Hp) (Q : VK), (∀ v H', Same H H' → Dt (New H) H' v d → Q v H') → te σ H Q
def DA (ta : TA) (ds : List PyData) : Prop := ∀ (σ : L2.St) (H : Hp) (Q : List V → Hp → Prop), (∀ vs H', Same H H' → DtA (New H) H' vs ds → Q vs H') → ta σ H Q
theorem Dt.grow {H H1 H2 : Hp} {v : V} {d : PyData} (h : Dt (New H) H1 v d) (k : Same H1 H2) : Dt (New H) H2 v d := h.move fun a o f e => ⟨f, k a o e⟩
theorem DtA.grow {H H1 H2 : Hp} {v : List V} {d : List PyData} (h : DtA (New H) H1 v d) (k : Same H1 H2) : DtA (New H) H2 v d := h.move fun a o f e => ⟨f, k a o e⟩
theorem Dt.back {H H1 H2 : Hp} {v : V} {d : PyData} (h : Dt (New H1) H2 v d) (k : Same H H1) : Dt (New H) H2 v d := h.move fun a o f e => ⟨k.free f, e⟩
theorem DtA.back {H H1 H2 : Hp} {v : List V} {d : List PyData} (h : DtA (New H1) H2 v d) (k : Same H H1) : DtA (New H) H2 v d := h.move fun a o f e => ⟨k.free f, e⟩
theorem de_non : DE (tC .non) .none := fun σ H Q q => q _ H (Same.refl H) .non
theorem de_bl (b : Bool) : DE (tC (.bl b)) (.bool b) := fun σ H Q q => q _ H (Same.refl H) (.bl b)
theorem de_int (i : Int) : DE (tC (.int i)) (.int i) := fun σ H Q q => q _ H (Same.refl H) (.int i)
theorem de_str (x : Str) : DE (tC (.str x)) (.str x) := fun σ H Q q => q _ H (Same.refl H) (.str x)
theorem de_neg (i : Int) : DE (tUn (rU fun i => .int (-i)) (tC (.int i))) (.int (-i)) := fun σ H Q q => ⟨_, rfl, q _ H (Same.refl H) (.int _)⟩
theorem de_pow {i j : Int} (h : CPow i j) : DE (tOp (rI CPow fun i j => .int (i ^ j.toNat)) (tC (.int i)) (tC (.int j))) (.int (i ^ j.toNat)) := fun σ H Q q => ⟨_, _, rfl, rfl, h, q _ H (Same.refl H) (.int _)⟩
theorem de_emp : DE tDNewK (.dict []) := fun σ H Q q p hp => q _ _ (Same.new hp) (.emp hp upd_same)
theorem da_nil : DA tNil [] := fun σ H Q q => q _ H (Same.refl H) .nil
theorem da_cons {te : TE} {t : TA} {d : PyData} {ds : List PyData} (h : DE te d) (r : DA t ds) : DA (tCons te t) (d :: ds) := fun σ H Q q =>
  h σ H _ fun v H1 s1 d1 => r σ H1 _ fun vs H2 s2 d2 => q _ H2 (s1.trans s2) (.cons (d1.grow s2) (d2.back s1))
theorem de_tup {t : TA} {ds : List PyData} (h : DA t ds) (z : ds.length ≤ 1000) : DE (tTup t) (.tuple ds) := fun σ H Q q =>
  h σ H _ fun vs H1 s1 d1 => ⟨Nat.le_of_lt (small1000 (by rw [d1.length]; exact z)), fun p hp => q _ _ (s1.trans (Same.new hp)) (.tup (s1.free hp) upd_same (d1.grow (Same.new hp)))⟩
theorem de_lst {t : TA} {ds : List PyData} (h : DA t ds) (z : ds.length ≤ 1000) : DE (tLst t) (.list ds) := fun σ H Q q =>
  h σ H _ fun vs H1 s1 d1 => ⟨Nat.le_of_lt (small1000 (by rw [d1.length]; exact z)), fun p hp => q _ _ (s1.trans (Same.new hp)) (.lst (s1.free hp) upd_same (d1.grow (Same.new hp)))⟩
/-! ### a data's size -/
structure Gd (n L : Nat) (d : PyData) : Prop where
  sh : d.showable = true
  dp : d.depth ≤ n
  ln : d.shown.length ≤ L
def gdB (n L : Nat) (d : PyData) : Bool := d.showable && (decide (d.depth ≤ n) && decide (d.shown.length ≤ L))
theorem gdB_ok {n L : Nat} {d : PyData} (h : gdB n L d = true) : Gd n L d := by
  obtain ⟨h1, h2⟩ := Bool.and_eq_true_iff.mp h
  obtain ⟨h3, h4⟩ := Bool.and_eq_true_iff.mp h2
  exact ⟨h1, of_decide_eq_true h3, of_decide_eq_true h4⟩
theorem gd_all {n L : Nat} {ds : List PyData} (h : (ds.all fun d => gdB n L d) = true) {i : Nat} {d : PyData} (e : ds[i]? = some d) : Gd n L d :=
  gdB_ok (List.all_eq_true.mp h d (List.mem_of_getElem? e))
theorem Gd.mono {n L m M : Nat} {d : PyData} (h : Gd n L d) (a : n ≤ m) (b : L ≤ M) : Gd m M d := ⟨h.sh, Nat.le_trans h.dp a, Nat.le_trans h.ln b⟩
theorem gd_sum {n L : Nat} : ∀ {ds : List PyData}, (∀ d ∈ ds, Gd n L d) → PyData.showableAll ds = true ∧ PyData.depthAll ds ≤ n ∧ ((PyData.shownAll ds).map (·.length)).sum + 2 * ds.length ≤ (L + 2) * ds.length
  | [], _ => by simp [PyData.showableAll, PyData.depthAll, PyData.shownAll]
  | d :: ds, h => by
    obtain ⟨h1, h2, h3⟩ := gd_sum (ds := ds) fun x hx => h x (List.mem_cons_of_mem _ hx)
    have g := h d List.mem_cons_self
    refine ⟨?_, ?_, ?_⟩
    · simp only [PyData.showableAll, g.sh, h1, Bool.and_self]
    · simp only [PyData.depthAll]
      exact Nat.max_le.mpr ⟨g.dp, h2⟩
    · have ln := g.ln
      simp only [PyData.shownAll, List.map_cons, List.sum_cons, List.length_cons]
      rw [Nat.mul_add, Nat.mul_add]
      omega
theorem gd_tup {n L m : Nat} {ds : List PyData} (h : ∀ d ∈ ds, Gd n L d) (hm : ds.length ≤ m) : Gd (n + 1) ((L + 2) * m + 3) (.tuple ds) := by
  obtain ⟨h1, h2, h3⟩ := gd_sum h
  have hk : (L + 2) * ds.length ≤ (L + 2) * m := Nat.mul_le_mul_left _ hm
  refine ⟨by simp only [PyData.showable, h1], by simp only [PyData.depth]; omega, ?_⟩
  simp only [PyData.shown]
  have q := tupleText_len_le (PyData.shownAll ds)
  rw [PyData.shownAll_length] at q
  omega
theorem gd_lst {n L m : Nat} {ds : List PyData} (h : ∀ d ∈ ds, Gd n L d) (hm : ds.length ≤ m) : Gd (n + 1) ((L + 2) * m + 3) (.list ds) := by
  obtain ⟨h1, h2, h3⟩ := gd_sum h
  have hk : (L + 2) * ds.length ≤ (L + 2) * m := Nat.mul_le_mul_left _ hm
  refine ⟨by simp only [PyData.showable, h1], by simp only [PyData.depth]; omega, ?_⟩
  simp only [PyData.shown]
  have q := listText_len_le (PyData.shownAll ds)
  rw [PyData.shownAll_length] at q
  omega
/-! ### one of some things; a thing of any kind -/
theorem Kw.seqT {K : PySem.W.Frag} {w t : Addr} {H H' : Hp} {c : Int} {xs : List V} (k : Kw w H H') (hw : Wl H w c) (h : SqT K H t xs) : SqT K H' t xs := by
  obtain ⟨n, m, z, e, _⟩ := hw; rcases h with (h | ⟨o, h⟩) | h
  · exact .inl (.inl (k _ _ (ne_of h e (by intro q; cases q)) h))
  · exact .inl (.inr ⟨o, k _ _ (ne_of h e (by intro q; cases q)) h⟩)
  · exact .inr h
/-- pick(well, tuple) -/
def spPick (K : PySem.W.Frag) : Sp := fun vs H Q _ => ∃ (w t : Addr) (xs : List V) (c : Int), vs = [.ref w, .ref t] ∧ Wl H w c ∧ c < 2 ^ 60 ∧ SqT K H t xs ∧ 0 < xs.length ∧ xs.length ≤ 1000 ∧
  ∀ (i : Nat) (v : V) (c' : Int) (H' : Hp), xs[i]? = some v → Kw w H H' → Wl H' w c' → c' ≤ c + 1 → Q v H'
/-- odd(well), one of the data ds -/
def spOdd (ds : List PyData) : Sp := fun vs H Q _ => ∃ (w : Addr) (c : Int), vs = [.ref w] ∧ Wl H w c ∧ c < 2 ^ 60 ∧
  ∀ (i : Nat) (v : V) (d : PyData) (c' : Int) (H' : Hp), ds[i]? = some d → Dt (New H) H' v d → Kw w H H' → Wl H' w c' → c' ≤ c + 1 → Q v H'
theorem Kw.data {w : Addr} {H0 H H' : Hp} {v : V} {d : PyData} (k : Kw w H H') (hw : H0 w ≠ none) (h : Dt (New H0) H v d) : Dt (New H0) H' v d :=
  h.move fun a o f e => ⟨f, k a o (fun z => hw (by rw [← z]; exact f)) e⟩
theorem Kw.dataA {w : Addr} {H0 H H' : Hp} {v : List V} {d : List PyData} (k : Kw w H H') (hw : H0 w ≠ none) (h : DtA (New H0) H v d) : DtA (New H0) H' v d :=
  h.move fun a o f e => ⟨f, k a o (fun z => hw (by rw [← z]; exact f)) e⟩
end KB
namespace KB
open PySem L2 PySem.Spec PyProof.Rows
theorem DE.asg {te : TE} {d : PyData} {g : TG} {rest : TS} {D : Ends} {σ : L2.St} {H : Hp} (h : DE te d)
    (k : ∀ v H', Same H H' → Dt (New H) H' v d → g v σ H' fun s2 H2 => rest D s2 H2) : tSeq (tAsg te g) rest D σ H := h σ H _ k
end KB
namespace K1
open PySem PySem.Spec PyProof.Rows L2 KB
def top (i : Nat) : Stmt := PySem.Challenge.pw_bykindalone_k01_errors_each_of_its_own.main.body.getD i (.Pass ⟨0, 0, 0, 0⟩)
abbrev FnP (K : PySem.W.Frag) (x : Str) (st : Stmt) (f : Addr) (fd : FuncData) : Prop :=
  FunD K x x (defArgs st) (defBody st) (defScope st) [] [] f fd
structure Bl (K : PySem.W.Frag) (mg : Str → Option Value) : Prop where
  sys : SysIn K
  int : mg "int" = none
  abs : mg "abs" = none
  divmod : mg "divmod" = none
  len : mg "len" = none
  repr : mg "repr" = none
  isinstance : mg "isinstance" = none
  range : mg "range" = none
  tuple : mg "tuple" = none
  zip : mg "zip" = none
  min : mg "min" = none
  max : mg "max" = none
  all : mg "all" = none
section
variable {K : PySem.W.Frag} {mg : Str → Option Value} {base : Heap} {P : Program} {w : World}
abbrev nDraw : List Str := ["_law_well_here", "_law_many", "_law_figure"]
theorem scDraw : FnScope nDraw ["_law_well_here", "_law_many"] (defScope (top 30)) := ⟨rfl, rfl, rfl, by decide +kernel, rfl, by decide +kernel, by decide +kernel⟩
theorem ok_draw {f : Addr} {fd : FuncData} (F : FnP K "_law_draw" (top 30) f fd) (T : Bl K mg) : FnOk P w K mg base CX0 1 f fd ["_law_well_here", "_law_many"] spDraw := by
  refine F.ok scDraw (fun vs H Q E h => ?_) (fun cdv A outer s H vs Q E hr h => ?_)
  · obtain ⟨w, k, c, rfl, _⟩ := h
    rfl
  · obtain ⟨w, k, c, rfl, ⟨n, m, z, hw, hn, hm, hm2, hc⟩, hc2, hk, hk2, q⟩ := h
    have sc := scDraw
    refine ⟨_, PSs.nox (pss_cons (ps_if (pt_cmpR op_gt (pe_ix ix_list (pv 0) pe_int (fun _ _ => rfl)) pe_int (nomark _)) (pss_cons (ps_asg (pe_callB call_divmod (by rfl) T.divmod (by decide +kernel) (pa_cons (pe_ix ix_list (pv 0) pe_int (fun _ _ => rfl)) (pa_cons (pv 1) pa_nil))) (pg_tup rfl (pgs_cons (pg_sub (pv 0) pe_int set_list) (pgs_cons (pg_name (i := 2) sc.nd rfl (Or.inl rfl)) pgs_nil)))) (pss_one (ps_ret (pv 2)))) pss_nil) (pss_cons (ps_asg (pe_op op_add (pe_ix ix_list (pv 0) pe_int (fun _ _ => rfl)) pe_int) (pg_sub (pv 0) pe_int set_list)) (pss_cons (ps_asg (pe_op op_mod (pe_callTy call_int1 (by rfl) T.int (by decide +kernel) (pa_cons (pe_op op_add (pe_op op_add (pe_op op_mul (pe_ix ix_list (pv 0) pe_int (fun _ _ => rfl)) pe_int) (pe_op op_mul (pe_op op_mul pe_int (pe_ix ix_list (pv 0) pe_int (fun _ _ => rfl))) (pe_ix ix_list (pv 0) pe_int (fun _ _ => rfl)))) pe_int) pa_nil)) pe_int) (pg_sub (pv 0) pe_int set_list)) (pss_one (ps_ret (pe_op op_mod (pe_callTy call_int1 (by rfl) T.int (by decide +kernel) (pa_cons (pe_op op_fdiv (pe_ix ix_list (pv 0) pe_int (fun _ _ => rfl)) pe_int) pa_nil)) (pv 1))))))), ?_⟩
    refine ⟨_, rfl, w, _, _, _, rfl, rfl, SqL.of hw, at0, _, _, rfl, rfl, _, rfl, ite2 (fun g => ?_) (fun g => ?_)⟩
    · have gn : 0 < n := of_decide_eq_true g
      refine ⟨_, rfl, w, _, _, _, rfl, rfl, SqL.of hw, at0, _, rfl, n, k, rfl, ⟨hk, by omega⟩, fun p hp => ?_⟩
      have nw : w ≠ p := ne_of_none hw hp
      refine ⟨p, _, rfl, SqT.of upd_same, rfl, _, _, rfl, _, rfl, w, _, 0, 0, rfl, rfl, Eq.trans (upd_ne nw) hw, rfl, _, _, rfl, ?_⟩
      refine ⟨rfl, _, rfl, ?_⟩
      refine q (n % k) c _ (Int.emod_nonneg _ (by omega)) (Int.emod_lt_of_pos _ hk) ?_ ⟨n / k, m, z, upd_same, Int.ediv_nonneg hn (by omega), hm, hm2, hc⟩ (by omega)
      exact (Kw.new hp).trans Kw.put
    · refine ⟨_, rfl, w, _, _, _, rfl, rfl, SqL.of hw, at2, _, _, rfl, rfl, _, rfl, w, _, 2, 2, rfl, rfl, hw, rfl, ?_⟩
      have h1 : upd H w (.lst [.int n, .int m, .int (c + 1), .int z]) w = some (.lst [.int n, .int m, .int (c + 1), .int z]) := upd_same
      refine ⟨_, rfl, w, _, _, _, rfl, rfl, SqL.of h1, at1, _, _, rfl, rfl, .inl ⟨by omega, by omega⟩, _, rfl, w, _, _, _, rfl, rfl, SqL.of h1, at2, _, _, rfl, rfl, .inl ⟨by decide, by decide⟩, _, rfl, w, _, _, _, rfl, rfl, SqL.of h1, at2, _, _, rfl, rfl, .inr ⟨by omega, by omega⟩, _, _, rfl, rfl, _, _, rfl, rfl, ?_⟩
      refine .inl ⟨_, rfl, _, _, rfl, rfl, (by decide : (0 : Int) < 2147483587), ?_⟩
      have x0 : 0 ≤ ((m * 39373 + 3 * (c + 1) * (c + 1) + 1) % 2147483587) := Int.emod_nonneg _ (by decide)
      have x1 : ((m * 39373 + 3 * (c + 1) * (c + 1) + 1) % 2147483587) < 2147483587 := Int.emod_lt_of_pos _ (by decide)
      refine ⟨_, rfl, w, _, 1, 1, rfl, rfl, h1, rfl, ?_⟩
      have h2 : upd (upd H w (.lst [.int n, .int m, .int (c + 1), .int z])) w (.lst [.int n, .int ((m * 39373 + 3 * (c + 1) * (c + 1) + 1) % 2147483587), .int (c + 1), .int z]) w = some (.lst [.int n, .int ((m * 39373 + 3 * (c + 1) * (c + 1) + 1) % 2147483587), .int (c + 1), .int z]) := upd_same
      refine ⟨_, rfl, w, _, _, _, rfl, rfl, SqL.of h2, at1, _, _, rfl, rfl, ⟨by decide, by decide⟩, .inl ⟨_, rfl, _, rfl, _, _, rfl, rfl, hk, ?_⟩⟩
      exact q _ (c + 1) _ (Int.emod_nonneg _ (by omega)) (Int.emod_lt_of_pos _ hk) (Kw.put.trans Kw.put) ⟨n, ((m * 39373 + 3 * (c + 1) * (c + 1) + 1) % 2147483587), z, h2, hn, x0, x1, by omega⟩ (by omega)
end
end K1
namespace KB
open PySem L2 PySem.Spec PyProof.Rows
/-- well(script, turn) -/
def spWell (K : PySem.W.Frag) : Sp := fun vs H Q _ => ∃ (a : Addr) (ns : List Int) (t : Int), vs = [.ref a, .int t] ∧ SqL K H a (ns.map V.int) ∧ 0 ≤ t ∧ t < 100 ∧
  ∀ (w : Addr) (H' : Hp), H w = none → Same H H' → Wl H' w 0 → Q (.ref w) H'
theorem cut_ints (ns : List Int) (lo hi : Option Int) : ∀ y ∈ cutV (ns.map V.int) lo hi, ∃ k, y = V.int k := by
  intro y hy
  unfold cutV at hy
  have h1 := List.mem_of_mem_drop (List.mem_of_mem_take hy)
  obtain ⟨k, _, e⟩ := List.mem_map.mp h1
  exact ⟨k, e.symm⟩
end KB
namespace K1
open PySem PySem.Spec PyProof.Rows L2 KB
section
variable {K : PySem.W.Frag} {mg : Str → Option Value} {base : Heap} {P : Program} {w : World}
abbrev nWell : List Str := ["_law_script", "_law_turn", "_law_mixed", "_law_cell", "_law_own"]
theorem scWell : FnScope nWell ["_law_script", "_law_turn"] (defScope (top 29)) := ⟨rfl, rfl, rfl, by decide +kernel, rfl, by decide +kernel, by decide +kernel⟩
theorem ok_well {f : Addr} {fd : FuncData} (F : FnP K "_law_well" (top 29) f fd) (T : Bl K mg) : FnOk P w K mg base CX0 1 f fd ["_law_script", "_law_turn"] (spWell K) := by
  refine F.ok scWell (fun vs H Q E h => ?_) (fun cdv A outer s H vs Q E hr h => ?_)
  · obtain ⟨a, ns, t, rfl, _⟩ := h
    rfl
  · obtain ⟨a, ns, t, rfl, hS, t0, t1, q⟩ := h
    have sc := scWell
    refine ⟨_, PSs.nox (pss_cons (ps_set (i := 2) sc.nd rfl (Or.inl rfl) (pe_op op_add pe_int (pe_op op_mul pe_int (pv 1)))) (pss_cons (ps_for PassesOwn.never rfl (pi_list (pe_slice sl_list (pv 0) po_none (po_some pe_int))) (pg_name (i := 3) sc.nd rfl (Or.inl rfl)) (pss_one (ps_set (i := 2) sc.nd rfl (Or.inl rfl) (pe_op op_mod (pe_callTy call_int1 (by rfl) T.int (by decide +kernel) (pa_cons (pe_op op_add (pe_op op_add (pe_op op_mul (pv 2) pe_int) (pe_op op_mod (pe_callTy call_int1 (by rfl) T.int (by decide +kernel) (pa_cons (pv 3) pa_nil)) pe_int)) pe_int) pa_nil)) pe_int)))) (pss_cons (ps_set (i := 4) sc.nd rfl (Or.inl rfl) (pe_ifExp (pt_cmpR op_lt (pv 1) (pe_callB call_len (by rfl) T.len (by decide +kernel) (pa_cons (pv 0) pa_nil)) (nomark _)) (pe_callTy call_int1 (by rfl) T.int (by decide +kernel) (pa_cons (pe_ix ix_list (pv 0) (pv 1) (fun _ _ => rfl)) pa_nil)) pe_int)) (pss_cons (ps_set (i := 2) sc.nd rfl (Or.inl rfl) (pe_op op_mod (pe_callTy call_int1 (by rfl) T.int (by decide +kernel) (pa_cons (pe_op op_add (pe_op op_add (pe_op op_mul (pv 2) pe_int) (pe_op op_mul (pe_op op_mod (pe_callTy call_int1 (by rfl) T.int (by decide +kernel) (pa_cons (pv 4) pa_nil)) pe_int) pe_int)) pe_int) pa_nil)) pe_int)) (pss_one (ps_ret (pe_lst (pa_cons (pe_ifExp (PW.pt (pw_or (pt_cmpR op_lt (pv 4) pe_int (nomark _)) (pw_or1 (pt_cmpR op_ge (pv 4) (pe_op op_pow pe_int pe_int) (nomark _))))) (pe_callB call_abs (by rfl) T.abs (by decide +kernel) (pa_cons (pv 4) pa_nil)) pe_int) (pa_cons (pv 2) (pa_cons pe_int (pa_cons pe_int pa_nil))))))))))), ?_⟩
    refine ⟨_, rfl, _, _, rfl, rfl, .inl ⟨by decide, by decide⟩, _, _, rfl, rfl, ?_⟩
    refine ⟨_, rfl, _, rfl, a, _, rfl, hS, fun p hp => ?_⟩
    have s1 : Same H (upd H p (.lst (cutV (ns.map V.int) none (some 12)))) := Same.new hp
    refine ⟨p, rfl, ⟨_, SqL.of upd_same⟩, for_list (K := K) (a := p) (xs := cutV (ns.map V.int) none (some 12)) (fun i σ H' => H' = upd H p (.lst (cutV (ns.map V.int) none (some 12))) ∧ ∃ (m : Int) (v : Option V), σ = [some (.ref a), some (.int t), some (.int m), v, none] ∧ 0 ≤ m ∧ m < 2147483587)
      ⟨rfl, _, none, rfl, by omega, by omega⟩ (fun i σ H' _ h => by rw [h.1]; exact SqL.of upd_same) ?_ ?_⟩
    · rintro i y σ H' hi ⟨rfl, m, v, rfl, m0, m1⟩
      obtain ⟨k, rfl⟩ := cut_ints ns none (some 12) y (List.mem_of_getElem? hi)
      refine ⟨_, rfl, _, _, rfl, rfl, .inl ⟨by omega, by omega⟩, _, rfl, .inl ⟨_, rfl, _, _, rfl, rfl, (by decide : (0 : Int) < 2147483629), _, _, rfl, rfl, _, _, rfl, rfl, .inl ⟨_, rfl, _, _, rfl, rfl, (by decide : (0 : Int) < 2147483587), ?_⟩⟩⟩
      exact ⟨rfl, _, _, rfl, Int.emod_nonneg _ (by decide), Int.emod_lt_of_pos _ (by decide)⟩
    · rintro σ H' ⟨rfl, m, v, rfl, m0, m1⟩
      have hS1 := s1.seq hS
      have fin2 : ∀ (x m2 : Int), 0 ≤ x → 0 ≤ m2 → m2 < 2147483587 → ∀ p2, upd H p (.lst (cutV (ns.map V.int) none (some 12))) p2 = none →
          Q (.ref p2) (upd (upd H p (.lst (cutV (ns.map V.int) none (some 12)))) p2 (.lst [.int x, .int m2, .int 0, .int 2])) := fun x m2 x0 b0 b1 p2 hp2 =>
        q p2 _ (s1.free hp2) (s1.trans (Same.new hp2)) ⟨x, m2, 2, upd_same, x0, b0, b1, Int.le_refl _⟩
      refine ⟨_, rfl, _, rfl, _, _, rfl, .inl ⟨_, hS1, rfl⟩, _, _, rfl, rfl, _, rfl, ite2 (fun g => ?_) (fun g => ?_)⟩
      · have gl : t < ((ns.map V.int).length : Int) := of_decide_eq_true g
        obtain ⟨j, rfl⟩ := Int.eq_ofNat_of_zero_le t0
        have lj : j < ns.length := by
          rw [List.length_map] at gl
          omega
        have hj : (ns.map V.int)[j]? = some (V.int ns[j]) := by
          rw [List.getElem?_map, List.getElem?_eq_getElem lj]
          rfl
        refine ⟨_, rfl, _, rfl, a, _, _, _, rfl, rfl, hS1, atI_nat hj, .inl ⟨_, rfl, ?_⟩⟩
        refine ⟨_, rfl, _, _, rfl, rfl, .inl ⟨by omega, by omega⟩, _, rfl, .inl ⟨_, rfl, _, _, rfl, rfl, (by decide : (0 : Int) < 2147483629), _, _, rfl, rfl, .inr ⟨by decide, by decide⟩, _, _, rfl, rfl, _, _, rfl, rfl, .inl ⟨_, rfl, _, _, rfl, rfl, (by decide : (0 : Int) < 2147483587), ?_⟩⟩⟩
        refine ⟨_, rfl, _, _, rfl, rfl, _, rfl, ite2 (fun c1 => ?_) (fun c1 => ?_)⟩
        · refine iteT ⟨_, rfl, _, rfl, _, rfl, (by show 4 ≤ sizeLine; decide), fun p2 hp2 => ?_⟩
          exact fin2 _ _ (by split <;> omega) (Int.emod_nonneg _ (by decide)) (Int.emod_lt_of_pos _ (by decide)) p2 hp2
        · refine ⟨_, rfl, _, _, rfl, rfl, ⟨by decide, by decide, by decide⟩, _, _, rfl, rfl, _, rfl, ite2 (fun c2 => ?_) (fun c2 => ?_)⟩
          · refine ⟨_, rfl, _, rfl, _, rfl, (by show 4 ≤ sizeLine; decide), fun p2 hp2 => ?_⟩
            exact fin2 _ _ (by split <;> omega) (Int.emod_nonneg _ (by decide)) (Int.emod_lt_of_pos _ (by decide)) p2 hp2
          · refine ⟨_, rfl, (by show 4 ≤ sizeLine; decide), fun p2 hp2 => ?_⟩
            exact fin2 _ _ (Int.le_refl _) (Int.emod_nonneg _ (by decide)) (Int.emod_lt_of_pos _ (by decide)) p2 hp2
      · refine ⟨_, rfl, _, _, rfl, rfl, .inl ⟨by omega, by omega⟩, _, rfl, .inl ⟨_, rfl, _, _, rfl, rfl, (by decide : (0 : Int) < 2147483629), _, _, rfl, rfl, .inr ⟨by decide, by decide⟩, _, _, rfl, rfl, _, _, rfl, rfl, .inl ⟨_, rfl, _, _, rfl, rfl, (by decide : (0 : Int) < 2147483587), ?_⟩⟩⟩
        refine ⟨_, rfl, _, _, rfl, rfl, _, rfl, ite2 (fun c1 => ?_) (fun c1 => ?_)⟩
        · refine iteT ⟨_, rfl, _, rfl, _, rfl, (by show 4 ≤ sizeLine; decide), fun p2 hp2 => ?_⟩
          exact fin2 _ _ (by split <;> omega) (Int.emod_nonneg _ (by decide)) (Int.emod_lt_of_pos _ (by decide)) p2 hp2
        · refine ⟨_, rfl, _, _, rfl, rfl, ⟨by decide, by decide, by decide⟩, _, _, rfl, rfl, _, rfl, ite2 (fun c2 => ?_) (fun c2 => ?_)⟩
          · refine ⟨_, rfl, _, rfl, _, rfl, (by show 4 ≤ sizeLine; decide), fun p2 hp2 => ?_⟩
            exact fin2 _ _ (by split <;> omega) (Int.emod_nonneg _ (by decide)) (Int.emod_lt_of_pos _ (by decide)) p2 hp2
          · refine ⟨_, rfl, (by show 4 ≤ sizeLine; decide), fun p2 hp2 => ?_⟩
            exact fin2 _ _ (Int.le_refl _) (Int.emod_nonneg _ (by decide)) (Int.emod_lt_of_pos _ (by decide)) p2 hp2
end
end K1
namespace K1
open PySem PySem.Spec PyProof.Rows L2 KB
def odd1 : List PyData := [.none, .bool true, .bool false, .int 0, .int 1, .int (-1), .int 12, .int (10 ^ 30), .str "", .str "num", .str "a", .str "x", .str "let", .str "unit", .str "==", .tuple [], .tuple [.int 0], .tuple [.str "num"]]
def odd2 : List PyData := [.tuple [.str "var", .str "a"], .tuple [.str "var", .str "d"], .tuple [.str "var", .tuple [.str "var", .str "a"]], .tuple [.str "list"], .tuple [.str "list", .tuple [.str "num"], .tuple [.str "num"]], .tuple [.str "unit", .int 1]]
def odd3 : List PyData := [.tuple [.str "pair", .tuple [.str "num"]], .tuple [.str "name", .str "x"], .tuple [.str "name", .str "let"], .tuple [.str "number", .bool true], .tuple [.str "left", .int 1], .list [], .list [.str "num"], .dict [], .str "1x"]
def odd4 : List PyData := [.tuple [.str "fun", .tuple [.str "num"], .tuple [.str "unit"]], .str "A", .tuple [.tuple [.str "unit"]], .tuple [.tuple [], .tuple []]]
def oddL : List PyData := odd1 ++ odd2 ++ odd3 ++ odd4
theorem odd_good : (oddL.all fun d => gdB 3 60 d) = true := by decide +kernel
section
variable {K : PySem.W.Frag} {mg : Str → Option Value} {base : Heap} {P : Program} {w : World}
abbrev nPick : List Str := ["_law_well_here", "_law_some"]
theorem scPick : FnScope nPick ["_law_well_here", "_law_some"] (defScope (top 31)) := ⟨rfl, rfl, rfl, by decide +kernel, rfl, by decide +kernel, by decide +kernel⟩
theorem ok_pick {f fD : Addr} {fd fdD : FuncData} (F : FnP K "_law_pick" (top 31) f fd) (T : Bl K mg) (FD : FnP K "_law_draw" (top 30) fD fdD) (gD : mg "_law_draw" = some (.ref fD)) (bD : Binds K fdD ["_law_well_here", "_law_many"] []) :
    FnOk P w K mg base CX0 2 f fd ["_law_well_here", "_law_some"] (spPick K) := by
  have GD : FnOk P w K mg base CX0 1 fD fdD ["_law_well_here", "_law_many"] spDraw := ok_draw FD T
  refine F.ok scPick (fun vs H Q E h => ?_) (fun cdv A outer s H vs Q E hr h => ?_)
  · obtain ⟨w, t, xs, c, rfl, _⟩ := h
    rfl
  · obtain ⟨w, t, xs, c, rfl, hw, hc, hS, h0, h1, q⟩ := h
    have sc := scPick
    refine ⟨_, PSs.nox (pss_one (ps_ret (pe_ix ix_tup (pv 1) (pe_call GD hr rfl gD FD.kp bD .nil pass0 (pa_cons (pv 0) (pa_cons (pe_callB call_len (by rfl) T.len (by decide +kernel) (pa_cons (pv 1) pa_nil)) pa_nil))) (fun _ _ => rfl)))), ?_⟩
    refine ⟨_, rfl, _, rfl, _, rfl, _, _, rfl, .inr ⟨_, hS, rfl⟩, w, _, c, rfl, hw, hc, by omega, by omega, fun r c' H' r0 r1 kw hw' hc' => ?_⟩
    obtain ⟨j, rfl⟩ := Int.eq_ofNat_of_zero_le r0
    have lj : j < xs.length := by omega
    exact ⟨t, xs, _, xs[j], rfl, rfl, kw.seqT hw hS, atI_nat (List.getElem?_eq_getElem lj), q j _ c' H' (List.getElem?_eq_getElem lj) kw hw' hc'⟩
abbrev nOdd : List Str := ["_law_well_here", "_law_some", "_law_more", "_law_ends"]
theorem scOdd : FnScope nOdd ["_law_well_here"] (defScope (top 33)) := ⟨rfl, rfl, rfl, by decide +kernel, rfl, by decide +kernel, by decide +kernel⟩
theorem ok_odd {f fP : Addr} {fd fdP : FuncData} (F : FnP K "_law_odd" (top 33) f fd) (FP : FnP K "_law_pick" (top 31) fP fdP) (gP : mg "_law_pick" = some (.ref fP)) (bP : Binds K fdP ["_law_well_here", "_law_some"] [])
    (GP : FnOk P w K mg base CX0 2 fP fdP ["_law_well_here", "_law_some"] (spPick K)) : FnOk P w K mg base CX0 3 f fd ["_law_well_here"] (spOdd oddL) := by
  refine F.ok scOdd (fun vs H Q E h => ?_) (fun cdv A outer s H vs Q E hr h => ?_)
  · obtain ⟨w, c, rfl, _⟩ := h
    rfl
  · obtain ⟨w, c, rfl, hw, hc, q⟩ := h
    have sc := scOdd
    refine ⟨_, PSs.nox (pss_cons (ps_set (i := 1) sc.nd rfl (Or.inl rfl) (pe_tup (pa_cons pe_non (pa_cons pe_bl (pa_cons pe_bl (pa_cons pe_int (pa_cons pe_int (pa_cons (pe_un un_neg pe_int) (pa_cons pe_int (pa_cons (pe_op op_pow pe_int pe_int) (pa_cons pe_str (pa_cons pe_str (pa_cons pe_str (pa_cons pe_str (pa_cons pe_str (pa_cons pe_str (pa_cons pe_str (pa_cons (pe_tup pa_nil) (pa_cons (pe_tup (pa_cons pe_int pa_nil)) (pa_cons (pe_tup (pa_cons pe_str pa_nil)) pa_nil)))))))))))))))))))) (pss_cons (ps_set (i := 2) sc.nd rfl (Or.inl rfl) (pe_tup (pa_cons (pe_tup (pa_cons pe_str (pa_cons pe_str pa_nil))) (pa_cons (pe_tup (pa_cons pe_str (pa_cons pe_str pa_nil))) (pa_cons (pe_tup (pa_cons pe_str (pa_cons (pe_tup (pa_cons pe_str (pa_cons pe_str pa_nil))) pa_nil))) (pa_cons (pe_tup (pa_cons pe_str pa_nil)) (pa_cons (pe_tup (pa_cons pe_str (pa_cons (pe_tup (pa_cons pe_str pa_nil)) (pa_cons (pe_tup (pa_cons pe_str pa_nil)) pa_nil)))) (pa_cons (pe_tup (pa_cons pe_str (pa_cons pe_int pa_nil))) pa_nil)))))))) (pss_cons (ps_set (i := 3) sc.nd rfl (Or.inl rfl) (pe_tup (pa_cons (pe_tup (pa_cons pe_str (pa_cons (pe_tup (pa_cons pe_str pa_nil)) pa_nil))) (pa_cons (pe_tup (pa_cons pe_str (pa_cons pe_str pa_nil))) (pa_cons (pe_tup (pa_cons pe_str (pa_cons pe_str pa_nil))) (pa_cons (pe_tup (pa_cons pe_str (pa_cons pe_bl pa_nil))) (pa_cons (pe_tup (pa_cons pe_str (pa_cons pe_int pa_nil))) (pa_cons (pe_lst pa_nil) (pa_cons (pe_lst (pa_cons pe_str pa_nil)) (pa_cons pe_dnewK (pa_cons pe_str pa_nil))))))))))) (pss_one (ps_ret (pe_call GP hr rfl gP FP.kp bP .nil pass0 (pa_cons (pv 0) (pa_cons (pe_op op_catT (pe_op op_catT (pe_op op_catT (pv 1) (pv 2)) (pv 3)) (pe_tup (pa_cons (pe_tup (pa_cons pe_str (pa_cons (pe_tup (pa_cons pe_str pa_nil)) (pa_cons (pe_tup (pa_cons pe_str pa_nil)) pa_nil)))) (pa_cons pe_str (pa_cons (pe_tup (pa_cons (pe_tup (pa_cons pe_str pa_nil)) pa_nil)) (pa_cons (pe_tup (pa_cons (pe_tup pa_nil) (pa_cons (pe_tup pa_nil) pa_nil))) pa_nil)))))) pa_nil)))))))), ?_⟩
    have d1 : DE (tTup _) (.tuple odd1) := (de_tup (da_cons de_non (da_cons (de_bl _) (da_cons (de_bl _) (da_cons (de_int _) (da_cons (de_int _) (da_cons (de_neg _) (da_cons (de_int _) (da_cons (de_pow (i := 10) (j := 30) ⟨by decide, by decide, by decide⟩) (da_cons (de_str _) (da_cons (de_str _) (da_cons (de_str _) (da_cons (de_str _) (da_cons (de_str _) (da_cons (de_str _) (da_cons (de_str _) (da_cons (de_tup da_nil (by decide)) (da_cons (de_tup (da_cons (de_int _) da_nil) (by decide)) (da_cons (de_tup (da_cons (de_str _) da_nil) (by decide)) da_nil)))))))))))))))))) (by decide))
    have d2 : DE (tTup _) (.tuple odd2) := (de_tup (da_cons (de_tup (da_cons (de_str _) (da_cons (de_str _) da_nil)) (by decide)) (da_cons (de_tup (da_cons (de_str _) (da_cons (de_str _) da_nil)) (by decide)) (da_cons (de_tup (da_cons (de_str _) (da_cons (de_tup (da_cons (de_str _) (da_cons (de_str _) da_nil)) (by decide)) da_nil)) (by decide)) (da_cons (de_tup (da_cons (de_str _) da_nil) (by decide)) (da_cons (de_tup (da_cons (de_str _) (da_cons (de_tup (da_cons (de_str _) da_nil) (by decide)) (da_cons (de_tup (da_cons (de_str _) da_nil) (by decide)) da_nil))) (by decide)) (da_cons (de_tup (da_cons (de_str _) (da_cons (de_int _) da_nil)) (by decide)) da_nil)))))) (by decide))
    have d3 : DE (tTup _) (.tuple odd3) := (de_tup (da_cons (de_tup (da_cons (de_str _) (da_cons (de_tup (da_cons (de_str _) da_nil) (by decide)) da_nil)) (by decide)) (da_cons (de_tup (da_cons (de_str _) (da_cons (de_str _) da_nil)) (by decide)) (da_cons (de_tup (da_cons (de_str _) (da_cons (de_str _) da_nil)) (by decide)) (da_cons (de_tup (da_cons (de_str _) (da_cons (de_bl _) da_nil)) (by decide)) (da_cons (de_tup (da_cons (de_str _) (da_cons (de_int _) da_nil)) (by decide)) (da_cons (de_lst da_nil (by decide)) (da_cons (de_lst (da_cons (de_str _) da_nil) (by decide)) (da_cons de_emp (da_cons (de_str _) da_nil))))))))) (by decide))
    have d4 : DE (tTup _) (.tuple odd4) := (de_tup (da_cons (de_tup (da_cons (de_str _) (da_cons (de_tup (da_cons (de_str _) da_nil) (by decide)) (da_cons (de_tup (da_cons (de_str _) da_nil) (by decide)) da_nil))) (by decide)) (da_cons (de_str _) (da_cons (de_tup (da_cons (de_tup (da_cons (de_str _) da_nil) (by decide)) da_nil) (by decide)) (da_cons (de_tup (da_cons (de_tup da_nil (by decide)) (da_cons (de_tup da_nil (by decide)) da_nil)) (by decide)) da_nil)))) (by decide))
    refine DE.asg d1 fun v1 H1 s1 t1 => ?_
    refine DE.asg d2 fun v2 H2 s2 t2 => ?_
    refine DE.asg d3 fun v3 H3 s3 t3 => ?_
    have t1' := (t1.grow s2).grow s3
    have t2' := (t2.grow s3).back s1
    have t3' := t3.back (s1.trans s2)
    cases t1' with
    | tup f1 h1 r1 => cases t2' with
      | tup f2 h2 r2 => cases t3' with
        | tup f3 h3 r3 =>
          have s03 := (s1.trans s2).trans s3
          rename_i a1 xs1 a2 xs2 a3 xs3
          have l1 := r1.length
          have l2 := r2.length
          have l3 := r3.length
          have e1 : odd1.length = 18 := rfl
          have e2 : odd2.length = 6 := rfl
          have e3 : odd3.length = 9 := rfl
          have n1 : xs1 ≠ [] := fun z => by (subst z; cases l1)
          have n2 : xs2 ≠ [] := fun z => by (subst z; cases l2)
          have n3 : xs3 ≠ [] := fun z => by (subst z; cases l3)
          have cat : ∀ {a b : List V}, a ≠ [] → a ++ b ≠ [] := fun h z => h (List.append_eq_nil_iff.mp z).1
          refine ⟨_, rfl, _, rfl, _, rfl, a1, a2, xs1, xs2, rfl, rfl, SqT.of h1, SqT.of h2, n1, Nat.le_of_lt (small1000 (by omega)), fun z => absurd z n2, fun _ p hp => ?_⟩
          refine ⟨_, rfl, p, a3, xs1 ++ xs2, xs3, rfl, rfl, SqT.of upd_same, SqT.of (Same.new hp _ _ h3), cat n1, Nat.le_of_lt (small1000 (by rw [List.length_append]; omega)), fun z => absurd z n3, fun _ p2 hp2 => ?_⟩
          refine d4 _ _ _ fun v4 H4 s4 t4 => ?_
          have sA := (Same.new hp).trans ((Same.new hp2).trans s4)
          cases t4 with
          | tup f4 h4 r4 =>
            rename_i a4 xs4
            have l4 := r4.length
            have e4 : odd4.length = 4 := rfl
            have n4 : xs4 ≠ [] := fun z => by (subst z; cases l4)
            refine ⟨p2, a4, xs1 ++ xs2 ++ xs3, xs4, rfl, rfl, SqT.of (s4 _ _ upd_same), SqT.of h4, cat (cat n1), Nat.le_of_lt (small1000 (by simp only [List.length_append]; omega)), fun z => absurd z n4, fun _ p3 hp3 => ?_⟩
            have sB := sA.trans (Same.new (o := .tup (xs1 ++ xs2 ++ xs3 ++ xs4)) hp3)
            have s0 := s03.trans sB
            have all : DtA (New H) (upd H4 p3 (.tup (xs1 ++ xs2 ++ xs3 ++ xs4))) (xs1 ++ xs2 ++ xs3 ++ xs4) oddL :=
              (((r1.grow sB).append (r2.grow sB)).append (r3.grow sB)).append ((r4.back (s03.trans ((Same.new hp).trans (Same.new hp2)))).grow (Same.new hp3))
            refine ⟨w, p3, _, c, rfl, hw.same s0, hc, SqT.of upd_same, by (simp only [List.length_append]; omega), by (simp only [List.length_append]; omega), fun i v c' H' hi kw hw' hc' => ?_⟩
            obtain ⟨d, hd, dt⟩ := all.get hi
            exact q i v d c' H' hd (kw.data hw.some dt) ((Kw.same s0).trans kw) hw' hc'
end
end K1
namespace KB
open PySem L2 PySem.Spec PyProof.Rows
def LL : Nat → Nat
  | 0 => 60
  | n + 1 => (LL n + 2) * 3 + 3
def TT : Nat → Int
  | 0 => 2
  | n + 1 => 3 * TT n + 2
theorem LL_ge : ∀ n, 60 ≤ LL n
  | 0 => Nat.le_refl _
  | n + 1 => by
    have h := LL_ge n
    show 60 ≤ (LL n + 2) * 3 + 3
    omega
theorem TT_ge : ∀ n, 2 ≤ TT n
  | 0 => by decide
  | n + 1 => by
    have h := TT_ge n
    show 2 ≤ 3 * TT n + 2
    omega
/-- thing(well, deep) -/
def spThing (n : Nat) : Sp := fun vs H Q _ => ∃ (w : Addr) (c : Int), vs = [.ref w, .int n] ∧ Wl H w c ∧ c + TT n < 2 ^ 60 ∧
  ∀ (v : V) (d : PyData) (c' : Int) (H' : Hp), Dt (New H) H' v d → Gd (3 + n) (LL n) d → Kw w H H' → Wl H' w c' → c' ≤ c + TT n → Q v H'
theorem gd_int {i : Int} (h : i.natAbs < 10 ^ 12) (n : Nat) {L : Nat} (hL : 13 ≤ L) : Gd n L (.int i) := by
  refine ⟨?_, by simp only [PyData.depth]; omega, Nat.le_trans (PyData.shown_int_le h) hL⟩
  simp only [PyData.showable, decide_eq_true_eq]; have h1 : i.natAbs < 2 ^ 40 := Nat.lt_of_lt_of_le h (by decide)
  have := PySem.Flt.log2_lt_of (k := 40) (by decide) h1
  omega
theorem Kw.free {w a : Addr} {H H' : Hp} (k : Kw w H H') (hw : H' w ≠ none) (h : H' a = none) : H a = none := by
  cases e : H a with
  | none => rfl
  | some o =>
    by_cases q : a = w
    · subst q
      exact absurd h hw
    · rw [k a o q e] at h
      cases h
end KB
namespace K1
open PySem PySem.Spec PyProof.Rows L2 KB
section
variable {K : PySem.W.Frag} {mg : Str → Option Value} {base : Heap} {P : Program} {w : World}
abbrev nThing : List Str := ["_law_well_here", "_law_deep", "_law_branch", "_law_made", "_law_turn"]
theorem scThing : FnScope nThing ["_law_well_here", "_law_deep"] (defScope (top 34)) := ⟨rfl, rfl, rfl, by decide +kernel, rfl, by decide +kernel, by decide +kernel⟩
theorem thing_body (n : Nat) {f fD fO : Addr} {fd fdD fdO : FuncData} {spR : Sp} (F : FnP K "_law_thing" (top 34) f fd) (T : Bl K mg)
    (FD : FnP K "_law_draw" (top 30) fD fdD) (gD : mg "_law_draw" = some (.ref fD)) (bD : Binds K fdD ["_law_well_here", "_law_many"] [])
    (FO : FnP K "_law_odd" (top 33) fO fdO) (gO : mg "_law_odd" = some (.ref fO)) (bO : Binds K fdO ["_law_well_here"] []) (GO : FnOk P w K mg base CX0 3 fO fdO ["_law_well_here"] (spOdd oddL))
    (gR : mg "_law_thing" = some (.ref f)) (bR : Binds K fd ["_law_well_here", "_law_deep"] []) (GR : FnOk P w K mg base CX0 (3 + n) f fd ["_law_well_here", "_law_deep"] spR)
    (hR : ∀ m, n = m + 1 → ∀ vs H Q, spThing m vs H Q E0 → spR vs H Q E0) : FnOk P w K mg base CX0 (3 + n + 1) f fd ["_law_well_here", "_law_deep"] (spThing n) := by
  have GD : FnOk P w K mg base CX0 1 fD fdD ["_law_well_here", "_law_many"] spDraw := ok_draw FD T
  refine F.ok scThing (fun vs H Q E h => ?_) (fun cdv A outer s H vs Q E hr h => ?_)
  · obtain ⟨w, c, rfl, _⟩ := h
    rfl
  · obtain ⟨w, c, rfl, hw, hc, q⟩ := h
    have sc := scThing
    have hrD : Room 1 _ := hr.mono (by omega)
    have hrO : Room 3 _ := hr.mono (by omega)
    have hrR : Room (3 + n) _ := hr
    have t2 := TT_ge n
    refine ⟨_, PSs.nox (pss_cons (ps_set (i := 2) sc.nd rfl (Or.inl rfl) (pe_call GD hrD rfl gD FD.kp bD .nil pass0 (pa_cons (pv 0) (pa_cons pe_int pa_nil)))) (pss_cons (ps_if (pt_cmpR op_lt (pv 2) pe_int (nomark _)) (pss_one (ps_ret (pe_op op_sub (pe_call GD hrD rfl gD FD.kp bD .nil pass0 (pa_cons (pv 0) (pa_cons pe_int pa_nil))) pe_int))) pss_nil) (pss_cons (ps_if (PW.pt (pw_or (pt_cmpR op_lt (pv 2) pe_int (nomark _)) (pw_or1 (pt_cmpR op_eq (pv 1) pe_int (nomark _))))) (pss_one (ps_ret (pe_call GO hrO rfl gO FO.kp bO .nil pass0 (pa_cons (pv 0) pa_nil)))) pss_nil) (pss_cons (ps_set (i := 3) sc.nd rfl (Or.inl rfl) (pe_lst pa_nil)) (pss_cons (ps_for PassesOwn.never rfl (pi_range1 rfl T.range (pa_cons (pe_call GD hrD rfl gD FD.kp bD .nil pass0 (pa_cons (pv 0) (pa_cons pe_int pa_nil))) pa_nil)) (pg_name (i := 4) sc.nd rfl (Or.inl rfl)) (pss_one (ps_expr (pe_bm PySem.F.plainAttrs_list PySem.F.slot_list_append PySem.F.type_list_append mt_append (pv 3) (pa_cons (pe_call GR hrR rfl gR F.kp bR .nil pass0 (pa_cons (pv 0) (pa_cons (pe_op op_sub (pv 1) pe_int) pa_nil))) pa_nil))))) (pss_one (ps_ret (pe_callTy call_tuple_of (by rfl) T.tuple (by decide +kernel) (pa_cons (pv 3) pa_nil))))))))), ?_⟩
    -- the branch
    refine ⟨_, rfl, w, 6, c, rfl, hw, by omega, by decide, by decide, fun b c1 H1 b0 b1 k1 w1 e1 => ?_⟩
    refine ⟨_, rfl, _, _, rfl, rfl, _, rfl, ite2 (fun g => ?_) (fun g => ?_)⟩
    · -- a number
      refine ⟨_, rfl, w, 3000017, c1, rfl, w1, by omega, by decide, by decide, fun r c2 H2 r0 r1 k2 w2 e2 => ?_⟩
      refine ⟨_, _, rfl, rfl, ?_⟩
      exact q _ _ c2 H2 (.int _) (gd_int (by omega) _ (Nat.le_trans (by decide) (LL_ge n))) (k1.trans k2) w2 (by omega)
    · refine ⟨_, rfl, _, _, rfl, rfl, _, rfl, ite2 (fun g2 => ?_) (fun g2 => ?_)⟩
      · refine iteT ⟨_, rfl, w, c1, rfl, w1, by omega, fun i v d c2 H2 hd dt k2 w2 e2 => ?_⟩
        have gd := (gd_all odd_good hd).mono (m := 3 + n) (M := LL n) (by omega) (LL_ge n)
        exact q v d c2 H2 (dt.move fun a o f e => ⟨k1.free w1.some f, e⟩) gd (k1.trans k2) w2 (by omega)
      · refine ⟨_, rfl, rfl, _, rfl, ite2 (fun g3 => ?_) (fun g3 => ?_)⟩
        · refine ⟨_, rfl, w, c1, rfl, w1, by omega, fun i v d c2 H2 hd dt k2 w2 e2 => ?_⟩
          have gd := (gd_all odd_good hd).mono (m := 3 + n) (M := LL n) (by omega) (LL_ge n)
          exact q v d c2 H2 (dt.move fun a o f e => ⟨k1.free w1.some f, e⟩) gd (k1.trans k2) w2 (by omega)
        · obtain ⟨m, rfl⟩ : ∃ m, n = m + 1 := by
            cases n with
            | zero => exact absurd (decide_eq_true rfl) g3
            | succ m => exact ⟨m, rfl⟩
          have tm := TT_ge m
          have tt : TT (m + 1) = 3 * TT m + 2 := rfl
          refine ⟨Nat.zero_le _, fun l hl => ?_⟩; have w1' := w1.same (Same.new (o := .lst []) hl)
          refine ⟨_, rfl, w, 4, c1, rfl, w1', by omega, by decide, by decide, fun r c2 H2 r0 r1 k2 w2 e2 => ?_⟩
          have lw : l ≠ w := (w1.ne hl).symm
          have hl2 : H2 l = some (.lst []) := k2 l _ lw upd_same
          have k02 : Kw w H H2 := (k1.trans (Kw.new hl)).trans k2
          have l0 : H l = none := k1.free w1.some hl
          refine ⟨r, rfl, by omega, by omega, for_range (lo := 0) (n := r.toNat) (fun i σ H3 => ∃ (vs : List V) (ds : List PyData) (t : Option V) (c3 : Int), σ = [some (.ref w), some (.int ((m + 1 : Nat) : Int)), some (.int b), some (.ref l), t] ∧
            Kw w H H3 ∧ H3 l = some (.lst vs) ∧ DtA (fun a => H a = none ∧ a ≠ l) H3 vs ds ∧ (∀ d ∈ ds, Gd (3 + m) (LL m) d) ∧ vs.length = i ∧ Wl H3 w c3 ∧ c3 ≤ c + 2 + i * TT m)
            ⟨[], [], none, c2, rfl, k02, hl2, .nil, fun d hd => (by cases hd), rfl, w2, (by omega)⟩ ?_ ?_⟩
          · rintro i σ H3 hi ⟨vs, ds, t, c3, rfl, k3, h3, dt3, g3', len, w3, e3⟩
            have c3b : i < 3 := by omega
            have lim : c3 + TT m < 2 ^ 60 := by
              have : (i : Int) * TT m ≤ 2 * TT m := Int.mul_le_mul_of_nonneg_right (by omega) (by omega)
              omega
            refine ⟨_, rfl, .inl ⟨rfl, _, SqL.of h3⟩, _, rfl, _, rfl, _, _, rfl, rfl, ?_⟩
            refine hR m rfl _ _ _ ⟨w, c3, ?_, w3, lim, fun v d c4 H4 dv gv k4 w4 e4 => ?_⟩
            · show [V.ref w, V.int (((m + 1 : Nat) : Int) - 1)] = _
              rw [show (((m + 1 : Nat) : Int) - 1) = (m : Int) by omega]
            have hw0 : H w ≠ none := hw.some
            have h4 := k4 l _ lw h3
            refine ⟨l, vs, v, rfl, rfl, h4, small1000 (by omega), ?_⟩
            have k5 : ∀ a o, (H a = none ∧ a ≠ l) → H4 a = some o → (H a = none ∧ a ≠ l) ∧ upd H4 l (.lst (vs ++ [v])) a = some o := fun a o f e => ⟨f, by rw [upd_ne f.2]; exact e⟩
            have old : DtA (fun a => H a = none ∧ a ≠ l) H4 vs ds := dt3.move fun a o f e => ⟨f, k4 a o (fun z => hw0 (by rw [← z]; exact f.1)) e⟩
            have nw : Dt (fun a => H a = none ∧ a ≠ l) H4 v d := dv.move fun a o f e => ⟨⟨k3.free w3.some f, fun z => nomatch (show none = some (HO.lst vs) from (show H3 a = none from f).symm.trans (by rw [z]; exact h3))⟩, e⟩
            refine ⟨vs ++ [v], ds ++ [d], _, c4, rfl, ?_, upd_same, (old.append (.cons nw .nil)).move k5, ?_, by rw [List.length_append, len]; rfl, ?_, ?_⟩
            · exact fun a o n1 e => by
                have := k4 a o n1 (k3 a o n1 e)
                rw [upd_ne (ne_of_none e l0)]
                exact this
            · intro x hx
              rcases List.mem_append.mp hx with h | h
              · exact g3' x h
              · rw [List.mem_singleton.mp h]
                exact gv
            · obtain ⟨a1, a2, a3, a4, a5⟩ := w4
              exact ⟨a1, a2, a3, by rw [upd_ne lw.symm]; exact a4, a5⟩
            · have : ((i + 1 : Nat) : Int) * TT m = i * TT m + TT m := by
                rw [show ((i + 1 : Nat) : Int) = (i : Int) + 1 by omega, Int.add_mul, Int.one_mul]
              omega
          · rintro σ H3 ⟨vs, ds, t, c3, rfl, k3, h3, dt3, g3', len, w3, e3⟩
            have cnt : vs.length ≤ 3 := by omega
            refine ⟨_, rfl, l, vs, rfl, .inl ⟨SqL.of h3, fun p hp => ?_⟩⟩
            have hp0 : H p = none := k3.free w3.some hp
            have dl : ds.length ≤ 3 := by rw [← dt3.length]; exact cnt
            refine q (.ref p) (.tuple ds) c3 _ (.tup hp0 upd_same ((dt3.move fun a o f e => ⟨f.1, e⟩).grow (Same.new hp))) (gd_tup g3' dl) (k3.trans (Kw.new hp)) (w3.same (Same.new hp)) ?_
            have : (r.toNat : Int) * TT m ≤ 3 * TT m := Int.mul_le_mul_of_nonneg_right (by omega) (by omega)
            omega
/-- thing, to any depth -/
theorem ok_thing {f fD fO : Addr} {fd fdD fdO : FuncData} (F : FnP K "_law_thing" (top 34) f fd) (T : Bl K mg)
    (FD : FnP K "_law_draw" (top 30) fD fdD) (gD : mg "_law_draw" = some (.ref fD)) (bD : Binds K fdD ["_law_well_here", "_law_many"] [])
    (FO : FnP K "_law_odd" (top 33) fO fdO) (gO : mg "_law_odd" = some (.ref fO)) (bO : Binds K fdO ["_law_well_here"] []) (GO : FnOk P w K mg base CX0 3 fO fdO ["_law_well_here"] (spOdd oddL))
    (gR : mg "_law_thing" = some (.ref f)) (bR : Binds K fd ["_law_well_here", "_law_deep"] []) : ∀ n : Nat, FnOk P w K mg base CX0 (3 + n + 1) f fd ["_law_well_here", "_law_deep"] (spThing n)
  | 0 => thing_body 0 (spR := fun _ _ _ _ => False) F T FD gD bD FO gO bO GO gR bR ⟨fun _ _ _ _ h => h.elim, fun _ _ _ _ _ _ _ _ _ _ _ _ _ h => h.elim⟩ fun m e => by cases e
  | n + 1 => thing_body (n + 1) F T FD gD bD FO gO bO GO gR bR (ok_thing F T FD gD bD FO gO bO GO gR bR n) fun m e => by cases e; exact fun _ _ _ h => h
end
end K1
/-! ### an own exception class called with keywords -/
namespace PySem
namespace KX
open HandSPX Builtin Builtin.ObjectAttr
section
variable {M : Model} {A : Around} {E : Value → Shared → Prop} {h : Heap} {g : Array GenState} {d : Drawn} {t : Nat} {os : OsState} {kw : List (Str × Value)}
  {nm q : Str} {C N : Addr} {bs bm bmB : List Value} {hdct : Bool} {sn : List Str} {sub : List Value} {ab : Bool} {col : Option Bool} {dd : Option Addr}
  {k0 k1 k2 k3 k5 : Option Value} {B newId initId : String}
theorem check_new (F : ExcBaseFacts B newId initId bmB) (hT : ∀ X : String, bm.contains (.type X) = bmB.contains (.type X)) {rest : List Value} {Q : Unit → Shared → Prop} (hC : h.get? C = some (excClassObj nm q C N bs bm hdct sn sub ab col dd k0 k1 k2 k3 k5 newId)) (hq : Q () ⟨h, g, d, t, os⟩) :
    wpAny M A (checkBuiltinCall newId ⟨.ref C :: rest, kw⟩) Q E ⟨h, g, d, t, os⟩ := by
  have under : (Value.ref C :: bm).contains (.type B) = true := by
    rw [List.contains_cons, hT, F.hasB, Bool.or_true]
  have st := F.noStar; simp only [checkBuiltinCall, F.newKind, F.newSplit, F.newRow]
  repeat (first
    | refine wpAny_loadPart_at hC ?_
    | (refine wpAny_isSubtype_exc hC ?_; rw [under])
    | refine wpAny_staticBase_exc hC ?_
    | refine wpAny_madeBy_exc hC ?_
    | simp only [bne_self_eq_false, Bool.false_eq_true, if_false]
    | wp_step)
  exact hq
theorem check_type {rest : List Value} {Q : Unit → Shared → Prop} (hC : h.get? C = some (excClassObj nm q C N bs bm hdct sn sub ab col dd k0 k1 k2 k3 k5 newId))
    (hq : Q () ⟨h, g, d, t, os⟩) : wpAny M A (checkBuiltinCall "type.__call__" ⟨.ref C :: rest, kw⟩) Q E ⟨h, g, d, t, os⟩ := by
  have f3 := tc_sub
  have ty : (⟨h, g, d, t, os⟩ : Shared).TypeIs (.ref C) "type" := ⟨_, hC, rfl⟩; simp only [checkBuiltinCall, tc_kind, tc_split]
  repeat (any_goals (first
    | assumption
    | with_reducible refine wpAny_loadPart_at hC ?_
    | with_reducible refine wpAny_onRaise ?_
    | with_reducible refine wpAny_map ?_
    | wp_step))
end
section
variable {prog : Program} {w : World} {A : Around} {E : Value → Shared → Prop} {R : Result → Shared → Prop} {h : Heap} {g : Array GenState} {d : Drawn} {t : Nat} {os : OsState} {kw : List (Str × Value)}
  {nm q : Str} {C N : Addr} {bs bm bmB : List Value} {hdct : Bool} {sn : List Str} {sub : List Value} {ab : Bool} {col : Option Bool} {dd : Option Addr}
  {k0 k1 k2 k3 k5 : Option Value} {B newId initId : String}
theorem new_kw (F : ExcBaseFacts B newId initId bmB) (hT : ∀ X : String, bm.contains (.type X) = bmB.contains (.type X)) {rest : List Value} (hC : h.get? C = some (excClassObj nm q C N bs bm hdct sn sub ab col dd k0 k1 k2 k3 k5 newId))
    (hq : R (.ok (.ret (.ref (h.objs.size + 1)))) ⟨(h.push (W.kdv_tup rest)).push (excO C h.objs.size), g, d, t, os⟩) (hrest : rest.length ≤ sizeLine) :
    codeAny (model prog w) A (.builtin newId ⟨.ref C :: rest, kw⟩) R ⟨h, g, d, t, os⟩ := by
  have en := F.ends
  have c1 : (Value.ref C :: bm).contains (.type B) = true := by
    rw [List.contains_cons, hT, F.hasB, Bool.or_true]
  have c2 : (Value.ref C :: bm).contains (.type "AttributeError") = false := by
    rw [List.contains_cons, hT, F.noAttr]; rfl
  have c3 : (Value.ref C :: bm).contains (.type "NameError") = false := by
    rw [List.contains_cons, hT, F.noName]; rfl
  refine codeAny_builtinAt F.entry ?_; unfold Builtin.«BaseException.__new__»
  refine wpAt_bind ?_
  show wpAt _ _ _ (stack >>= _) _ _ _; refine wpAt_bind (wpAt_stack fun p below => wpAt_of_wpAny ?_)
  wp_walk
  refine wpAt_of_wpAny ?_
  rw [F.owner]
  repeat (first
    | with_reducible refine wpAny_madeHere_exc F.canon hC ?_
    | with_reducible refine wpAny_loadPart_at hC ?_
    | (with_reducible refine wpAny_isSubtype_exc hC ?_; first | rw [c1] | rw [c2] | rw [c3])
    | wp_step)
  show R _ _
  rw [Heap.size_push]
  exact hq
theorem type_kw (F : ExcBaseFacts B newId initId bmB) (hT : ∀ X : String, bm.contains (.type X) = bmB.contains (.type X)) {rest : List Value} {fI : Addr} {Q : Fin → Shared → Prop} (hC : h.get? C = some (excClassObj nm q C N bs bm hdct sn sub ab col dd k0 k1 k2 k3 k5 newId)) (hi : W.Looks (model prog w) h (typeLookup (.ref C) "__init__") (some (.ref fI))) (hb : ∀ self, W.Looks (model prog w) h (bindSpecial (.ref fI) self) (.ref fI, [self])) (hrest : rest.length ≤ sizeLine)
    (hq : codeAny (model prog w) A (.call (.ref fI) ⟨.ref (h.objs.size + 1) :: rest, kw⟩) (fun r s' => match r with | .ok (.ret v) => v = .none ∧ Q (.done (.ret (.ref (h.objs.size + 1)))) s' | .ok _ => False | .error e => E e s') ⟨(h.push (W.kdv_tup rest)).push (excO C h.objs.size), g, d, t, os⟩) :
    wpAny (model prog w) A (Builtin.«type.__call__» ⟨.ref C :: rest, kw⟩) Q E ⟨h, g, d, t, os⟩ := by
  repeat (first
    | with_reducible refine wpAny_loadPart_at hC ?_
    | with_reducible refine wpAny_madeBy_exc hC ?_
    | wp_step)
  refine codeAny_call_builtin_code (Code.quiet_builtin _ F.quiet) (check_new F hT hC ?_)
  refine new_kw F hT hC ?_ hrest
  show wpAny _ _ _ _ _ _
  have k : ∀ b o, h.get? b = some o → ((h.push (W.kdv_tup rest)).push (excO C h.objs.size)).get? b = some o := by
    intro b o e; exact Heap.get?_push_of_some _ (Heap.get?_push_of_some _ e)
  have at1 := k _ _ hC
  have new : ((h.push (W.kdv_tup rest)).push (excO C h.objs.size)).get? (h.objs.size + 1) = some (excO C h.objs.size) := by heap_get
  have self : (Value.ref C :: bm).contains (.ref C) = true := by simp
  have i1 := hi.keeps k
  have b1 := (hb (.ref (h.objs.size + 1))).keeps k; unfold isInstance
  repeat (first
    | with_reducible refine wpAny_loadPart_at new ?_
    | (with_reducible refine wpAny_isSubtype_exc at1 ?_; rw [self])
    | wp_step)
  show wpAny _ _ (typeLookup (.ref C) _) _ _ _; refine i1.at ?_
  refine wpAny_holding (wpAny_bind (b1.at ?_)); refine wpAny_bind (wpAny_call (codeAny_mono hq fun r s' z => ?_))
  rcases r with e | (v | _ | _ | _) <;> first | exact z | exact False.elim z | skip
  obtain ⟨rfl, z⟩ := z
  first
    | refine wpAny_pure (wpAny_pure z)
    | (wp_walk; exact z)
/-- C(.., k = v ..), C's own __init__ -/
theorem call_kw (F : ExcBaseFacts B newId initId bmB) (hT : ∀ X : String, bm.contains (.type X) = bmB.contains (.type X)) {rest : List Value} {fI : Addr} (hC : h.get? C = some (excClassObj nm q C N bs bm hdct sn sub ab col dd k0 k1 k2 k3 k5 newId)) (hi : W.Looks (model prog w) h (typeLookup (.ref C) "__init__") (some (.ref fI))) (hb : ∀ self, W.Looks (model prog w) h (bindSpecial (.ref fI) self) (.ref fI, [self])) (hrest : rest.length ≤ sizeLine)
    (hq : codeAny (model prog w) (A.under (.builtin "type.__call__" ⟨.ref C :: rest, kw⟩)) (.call (.ref fI) ⟨.ref (h.objs.size + 1) :: rest, kw⟩) (W.InitBack (h.objs.size + 1) R) ⟨(h.push (W.kdv_tup rest)).push (excO C h.objs.size), g, d, t, os⟩) : codeAny (model prog w) A (.call (.ref C) ⟨rest, kw⟩) R ⟨h, g, d, t, os⟩ := by
  have f1 := tc_lookup
  have f2 := tc_bind (.ref C)
  have ty : (⟨h, g, d, t, os⟩ : Shared).TypeIs (.ref C) "type" := ⟨_, hC, rfl⟩
  refine codeAny_of_tree ?_; show wpAny _ _ (callAny (.ref C) _) _ _ _
  repeat (any_goals (first | assumption | with_reducible refine (wpAny_loadPart_at hC ?_) | wp_step))
  refine ⟨rfl, ?_⟩
  refine codeAny_call_builtin_at (Code.quiet_builtin _ (by decide +kernel)) entry_typeCall (check_type hC (type_kw F hT hC hi hb hrest ?_))
  refine codeAny_mono hq fun r s' hz => ?_
  rcases r with e | (v | _ | _ | _) <;> exact hz
end
end KX
end PySem
/-! ### exceptions of own classes as values -/
namespace KB
open PySem PySem.W PySem.Calls PySem.Spec PyProof.Rows
section
variable {K : Frag} {x D : Addr} {ox : Obj} {od : Option Obj}
theorem fo_data {C : Addr} {name : Str} {a g : Value} (hc : (clsIn K C).isSome = true) (ha : findIn K (.ref C) name = some (some a))
    (hg : specialIn K a "__get__" = some (some g)) (ht : takesIn K a = some true) : findObj K C od name = some (.bind g a) := by
  obtain ⟨cd, e⟩ := Option.isSome_iff_exists.mp hc
  unfold findObj
  rw [e, Option.bind_some, ha, Option.bind_some]
  simp [hg, ht]
/-- what isinstance asks of an exception's class -/
structure IsC (K : Frag) (D : Addr) : Prop where
  ga : findIn K (.ref D) "__getattribute__" = some (some (.builtin "BaseException.__getattribute__"))
  gg : findIn K (.ref D) "__getattr__" = some none
  sub : subIn K (.ref D) (.type "BaseException") = some true
  dct : hasDictIn K D = true
  cl : findIn K (.ref D) "__class__" = some (some (.builtin "object.__class__"))
  sp : specialIn K (.builtin "object.__class__") "__get__" = some (some (.builtin "getset_descriptor.__get__"))
  tk : takesIn K (.builtin "object.__class__") = some true
  ob : mroIn K D (.type "object") = some true
variable {A : Around} {E : Value → Shared → Prop} {s : Shared} {prog : Program} {w : World}
theorem cls_get {Q : Option Value → Shared → Prop} (T : IsC K D) (X : K.In s.heap) (I : InstAt s.heap x ox D od) (h : Q (some (.ref D)) { s with toks := s.toks + 1 }) :
    wpAny (model prog w) A (getAttr? (.ref x) "__class__") Q E s := by
  have some1 : (clsIn K D).isSome = true := by
    obtain ⟨cd, hc, _⟩ := any_some T.dct
    rw [hc] <;> rfl
  have hf : findObj K D od "__class__" = some (.bind (.builtin "getset_descriptor.__get__") (.builtin "object.__class__")) := fo_data some1 T.cl T.sp T.tk
  obtain ⟨hp, g, d, t, os⟩ := s
  have a0 := I.type (M := model prog w)
  have a1 := looks_findIn (M := model prog w) X T.ga
  have a2 := looks_findIn (M := model prog w) X T.gg
  have a3 := looks_find (M := model prog w) X I hf
  have sub : Looks (model prog w) hp (isInstance (.ref x) (.type "BaseException")) true := a0.andThen (looks_subIn X T.sub)
  have no0 : (false && onTheHeap (Value.builtin "BaseException.__getattribute__")) = false := rfl
  have no1 : (Value.builtin "BaseException.__getattribute__" == Value.builtin "object.__getattribute__") = false := by decide +kernel
  have no2 : (onTheHeap (Value.ref D) && Value.builtin "BaseException.__getattribute__" == Value.builtin "object.__getattribute__") = false := by
    rw [no1]; rfl
  unfold getAttr? getAttrBy? getAttrBy; refine wpAny_bind (wpAny_mkText (wpAny_bind (wpAny_attempt (wpAny_holding (wpAny_bind (a0.at (wpAny_bind (a1.at ?_))))))))
  show wpAny _ _ (if (onTheHeap (Value.ref D) && Value.builtin "BaseException.__getattribute__" == Value.builtin "object.__getattribute__") = true then _ else _) _ _ _; rw [no2, if_neg Bool.false_ne_true]
  unfold getAttrByItsOwn hookBefore; refine wpAny_bind ?_
  rw [if_pos (show onTheHeap (Value.ref D) = true from rfl)]; refine a2.at ?_
  refine wpAny_bind (wpAny_attempt (wpAny_holding ?_)); unfold callGetattribute
  rw [no0, if_neg Bool.false_ne_true]
  unfold boundAndCalled
  rw [PySem.F.excAttr_ValueError.ga.bind (.ref x)]; refine wpAny_bind (wpAny_pure ?_)
  show wpAny _ _ (call (.builtin "BaseException.__getattribute__") [.ref x, .str "__class__" t]) _ _ _; refine wpAny_call (codeAny_call_builtin PySem.F.excAttr_ValueError.ga.plain PySem.F.entry_bexc_ga ?_)
  refine @check_slot (model prog w) _ _ ⟨hp, g, d, t + 1, os⟩ "BaseException.__getattribute__" "BaseException" "__getattribute__" (.ref x)
    [.str "__class__" t] [] _ (by decide +kernel) (by decide +kernel) sub (PySem.F.args_bexc_ga (.ref x) (.str "__class__" t)) ?_
  unfold Builtin.«object.__getattribute__»; refine wpAny_bind (wpAny_of_eq (a := ((Value.ref x : Value), [Value.str "__class__" t])) (by first | rfl | (simp only [slotArgs]; rfl)) ?_)
  refine wpAny_bind (wpAny_pure (wpAny_bind (a0.at (wpAny_bind (a3.at ?_)))))
  show wpAny _ _ (holding [Value.builtin "object.__class__"] (call (.builtin "getset_descriptor.__get__") [.builtin "object.__class__", .ref x, .ref D]) >>= ret) _ _ _; refine wpAny_bind (wpAny_holding (wpAny_call (class_get (s := ⟨hp, g, d, t + 1, os⟩) (ox := ox) (od := od) X I T.ob ?_)))
  refine wpAny_pure ?_
  show wpAny _ _ (handedOut (.ref D)) _ _ _; rw [handedOut_of (v := .ref D) rfl]
  first
    | refine wpAny_pure (wpAny_pure h)
    | exact wpAny_pure h
    | refine wpAny_pure (wpAny_bind (wpAny_pure (wpAny_pure h)))
theorem kitx_exc (T : IsC K D) : KitX K (.ref x) (.ref D) (fun h => InstAt h x ox D od) where
  ty := fun _ _ _ I => I.type
  it := by
    intro M h X _
    obtain ⟨cd, hc, _⟩ := any_some T.dct
    unfold clsIn at hc
    split at hc
    · rename_i c' d' cd' sl' ho
      intro A' Q' E' s' k q
      unfold isType loadHead; exact wpAny_bind (wpAny_loadPart (k _ _ (X _ _ ho)) (wpAny_pure q))
    · cases hc
  ne := by
    intro h tp dd its n sl X htp
    obtain ⟨cd, hc, _⟩ := any_some T.dct
    refine Bool.eq_false_iff.mpr fun q => ?_; have e : D = tp := Value.ref.inj (beq_iff_eq.mp q)
    subst e
    unfold clsIn at hc
    split at hc
    · rename_i c' d' cd' sl' ho
      cases (X _ _ ho).symm.trans htp
    · cases hc
  ca := fun X I k => cls_get T X I k
end
end KB
namespace KB
open PySem L2 PySem.Spec PyProof.Rows
/-- an exception value of the class at C that keeps fs -/
def Exv (H : Hp) (a C : Addr) (fs : List (Str × V)) : Prop := (fs = [] ∧ H a = some (exo a C none)) ∨ ∃ dx, H a = some (exo a C (some dx)) ∧ H dx = some (exd dx fs)
theorem Exv.same {H H' : Hp} {a C : Addr} {fs : List (Str × V)} (h : Exv H a C fs) (k : Same H H') : Exv H' a C fs := by
  rcases h with ⟨e, h⟩ | ⟨dx, h, h2⟩
  · exact .inl ⟨e, k _ _ h⟩
  · exact .inr ⟨dx, k _ _ h, k _ _ h2⟩
theorem Exv.kw {w : Addr} {H H' : Hp} {a C : Addr} {fs : List (Str × V)} {c : Int} (h : Exv H a C fs) (hw : Wl H w c) (k : Kw w H H') : Exv H' a C fs := by
  obtain ⟨n, m, z, e, _⟩ := hw
  have n1 : ∀ {d : Option Addr} {b : Addr}, H b = some (exo b C d) → b ≠ w := fun {d b} q => ne_of q e (by unfold exo; intro z; cases z)
  have n2 : ∀ {b : Addr}, H b = some (exd b fs) → b ≠ w := fun {b} q => ne_of q e (by unfold exd; intro z; cases z)
  rcases h with ⟨e1, h⟩ | ⟨dx, h, h2⟩
  · exact .inl ⟨e1, k _ _ (n1 h) h⟩
  · exact .inr ⟨dx, k _ _ (n1 h) h, k _ _ (n2 h2) h2⟩
section
variable {X : Cx} {pins : List (Addr × Obj)} {σ : L2.St} {H : Hp} {s : Shared} {a C : Addr} {fs : List (Str × V)}
theorem Exv.inst (I : Inv X pins σ H s) (h : Exv H a C fs) : ∃ ox od, PySem.W.InstAt s.heap a ox C od ∧ ∀ f v, fs.lookup f = some v → ∃ o u, od = some o ∧ RelV v u ∧ PySem.W.lookIn f o = some (some u) := by
  rcases h with ⟨e, h⟩ | ⟨dx, h, h2⟩
  · obtain ⟨t1, ho⟩ := exo_at I.hok h
    refine ⟨_, none, ⟨ho, rfl, rfl, trivial⟩, fun f v q => ?_⟩
    rw [e] at q
    cases q
  · obtain ⟨t1, ho⟩ := exo_at I.hok h
    obtain ⟨mA, hns, rel⟩ := exd_at I.hok h2
    obtain ⟨od, hd, hl⟩ := lookIn_ns hns
    refine ⟨_, some od, ⟨ho, rfl, rfl, hd⟩, fun f v q => ?_⟩
    obtain ⟨u, hu, ru⟩ := RelO.some_of (v := v) (o := mA f) (by rw [← q]; exact rel f)
    exact ⟨od, u, rfl, ru, by rw [hl, hu]⟩
end
/-! #### isinstance -/
def rIsE (K : PySem.W.Frag) : List V → Hp → VK → Prop := fun xs H Q => ∃ (a C : Addr) (fs : List (Str × V)) (c : V) (u : Value) (b : Bool), xs = [.ref a, c] ∧ Exv H a C fs ∧ IsC K C ∧ ClsV c u ∧ PySem.W.kitOne K (.ref C) u = some b ∧ Q (.bl b) H
def rIsET (K : PySem.W.Frag) : List V → Hp → VK → Prop := fun xs H Q => ∃ (a C : Addr) (fs : List (Str × V)) (tp : Addr) (cs : List V) (us : List Value) (b : Bool), xs = [.ref a, .ref tp] ∧ Exv H a C fs ∧ IsC K C ∧ H tp = some (.tup cs) ∧ Paired ClsV cs us ∧
  PySem.W.kitAny K (.ref C) us = some b ∧ Q (.bl b) H
section
variable {X : Cx}
theorem call_isE : CallR X (.builtin "isinstance") (rIsE X.K) := by
  intro pins s σ H xs us Q I r h; obtain ⟨a, C, fs, c, u, b, rfl, hx, ic, hc, e, q⟩ := h
  obtain ⟨u1, u2, rfl, r1, r2⟩ := vals2 r; cases (show u1 = Value.ref a from r1)
  have e2 := hc.eq r2
  subst e2
  obtain ⟨ox, od, J, _⟩ := hx.inst I
  exact PySem.W.kia_one (kitx_exc ic) I.kIn J e (fun z => nomatch z) fun tk => ⟨.bl b, H, I.tok tk, rfl, q⟩
theorem call_isET : CallR X (.builtin "isinstance") (rIsET X.K) := by
  intro pins s σ H xs us Q I r h; obtain ⟨a, C, fs, tp, cs, ws, b, rfl, hx, ic, hT, hc, e, q⟩ := h
  obtain ⟨u1, u2, rfl, r1, r2⟩ := vals2 r; cases (show u1 = Value.ref a from r1)
  cases (show u2 = Value.ref tp from r2); obtain ⟨ox, od, J, _⟩ := hx.inst I
  obtain ⟨_, its, rv, o, h1, h2, n, h3⟩ := (show ObjOk X.prog X.w H s.heap tp (.tup cs) from I.hok tp _ hT); have e3 := ClsV.all hc rv
  subst e3
  obtain ⟨oc, odd, dt, sl⟩ := o
  simp only at h2 h3
  subst h2 h3
  exact PySem.W.kia_tup (kitx_exc ic) I.kIn J h1 e (fun z => nomatch z) fun tk => ⟨.bl b, H, I.tok tk, rfl, q⟩
end
/-! #### e.f -/
def tGetE (K : PySem.W.Frag) (f : Str) (te : TE) : TE := fun σ H Q => te σ H fun x H1 => ∃ (a C : Addr) (fs : List (Str × V)) (v : V), x = .ref a ∧ Exv H1 a C fs ∧ XfC K C ∧ PySem.W.findIn K (.ref C) f = some none ∧ fs.lookup f = some v ∧ Q v H1
theorem pe_getE {X : Cx} {e : Expr} {te : TE} {f : Str} {pos : Pos} (he : PE X e te) (hb : attributeBase e f X.env (eval e X.env) = eval e X.env := by rfl) : PE X (.Attribute e f pos) (tGetE X.K f te) := by
  refine ⟨fun pins s σ H Q I h => ?_⟩; refine attr_of hb (thn (he.run pins s σ H _ I h) fun u s1 hh => ?_)
  obtain ⟨x, H1, I1, rx, a, C, fs, v, ex, hx, T, hno, l, q⟩ := hh
  subst ex
  obtain rfl : u = Value.ref a := rx; obtain ⟨ox, od, J, look⟩ := hx.inst I1
  obtain ⟨o, z, rfl, rz, hl⟩ := look f v l
  exact HandSPX.exc_get I1.kIn J T.ga T.gg T.exC (PySem.W.findObj_own T.hdC hno rfl hl) (handed_of rz) ⟨v, H1, I1.tok _, rz, q⟩
/-! #### making one -/
/-- C.__init__(self, ..): each parameter is kept -/
def spInit (C : Addr) (fs : List Str) : Sp := fun vs H Q _ => ∃ (a : Addr) (xs : List V), vs = .ref a :: xs ∧ xs.length = fs.length ∧ H a = some (exo a C none) ∧
  ∀ (dx : Addr) (H' : Hp), H dx = none → dx ≠ a → H' a = some (exo a C (some dx)) → H' dx = some (exd dx (fs.zip xs).reverse) → (∀ b, b ≠ a → b ≠ dx → H' b = H b) → Q .non H'
/-- a class of errors that keeps fs (at least one) -/
structure ErrC (P : Program) (w : World) (K : PySem.W.Frag) (mg : Str → Option Value) (base : Heap) (x : Str) (C : Addr) (fs : List Str) : Prop where
  g : mg x = some (.ref C)
  oex : OexC K C
  ini : ∃ (fI : Addr) (fd : FuncData), PySem.W.findIn K (.ref C) "__init__" = some (some (.ref fI)) ∧ PySem.W.typeIn K (.ref fI) = some (.type "function") ∧ FnOk P w K mg base CX0 1 fI fd (("self" : Str) :: fs) (spInit C fs) ∧ Binds K fd (("self" : Str) :: fs) [] ∧
    ∀ (s : Shared) (u : Value) (ws : List Value), ws.length = fs.length → BindsTo s fd ⟨[u], fs.zip ws⟩ ((("self" : Str) :: fs).zip (u :: ws)) ∧ BindsTo s fd ⟨[u], fs.reverse.zip ws.reverse⟩ ((("self" : Str) :: fs).zip (u :: ws))
/-- C(..), its values in the order of the fields -/
def tNew (C : Addr) (fs : List Str) (g : List V → List V) (t : TA) : TE := fun σ H Q => t σ H fun vs H1 => (g vs).length = fs.length ∧ ∀ (a dx : Addr) (H' : Hp), H1 a = none → H1 dx = none → dx ≠ a → H' a = some (exo a C (some dx)) → H' dx = some (exd dx (fs.zip (g vs)).reverse) → Same H1 H' → Q (.ref a) H'
section
variable {X : Cx} {x : Str} {C : Addr} {fs : List Str} {p pos : Pos} {e : Expr} {es : List Expr} {kws : List Keyword} {t : TA}
theorem run_new {pins : List (Addr × Obj)} {σ : L2.St} {H : Hp} {s : Shared} {Q : VK} {us : List Value} {kw : List (Str × Value)} {all : List Value} {xs : List V} (E : ErrC X.prog X.w X.K X.mg X.base x C fs) (hr : Room 2 X.A) (I : Inv X pins σ H s) (r : Vals xs all)
    (hl : xs.length = fs.length) (hz : us.length ≤ sizeLine) (bnd : ∀ (fI : Addr) (fd : FuncData), PySem.W.findIn X.K (.ref C) "__init__" = some (some (.ref fI)) → FnOk X.prog X.w X.K X.mg X.base CX0 1 fI fd (("self" : Str) :: fs) (spInit C fs) → Binds X.K fd (("self" : Str) :: fs) [] →
      (∀ (s : Shared) (u : Value) (ws : List Value), ws.length = fs.length → BindsTo s fd ⟨[u], fs.zip ws⟩ ((("self" : Str) :: fs).zip (u :: ws)) ∧ BindsTo s fd ⟨[u], fs.reverse.zip ws.reverse⟩ ((("self" : Str) :: fs).zip (u :: ws))) →
      ∀ (s : Shared) (u : Value), X.K.In s.heap → BindsTo s fd ⟨u :: us, kw⟩ ((("self" : Str) :: fs).zip (u :: all)))
    (h : ∀ (a dx : Addr) (H' : Hp), H a = none → H dx = none → dx ≠ a → H' a = some (exo a C (some dx)) → H' dx = some (exd dx (fs.zip xs).reverse) → Same H H' → Q (.ref a) H') :
    wpAny (model X.prog X.w) X.A (call (.ref C) us kw) (EP X pins σ Q) X.xe s := by
  obtain ⟨nm, q, N, bs, bm, sn, sub, ab, col, dd, k0, k1, k2, k3, k5, hC, hbm⟩ := E.oex.cls
  obtain ⟨fI, fd, iC, tI, F1, b1, b2⟩ := E.ini
  obtain ⟨hp, g, dr, tk, os⟩ := s; have hsz : hp.objs.size ≤ hp.objs.size + 1 := Nat.le_succ _
  have hn : H (hp.objs.size + 1) = none := I.hok.fresh hsz
  have kk : ∀ b o, hp.get? b = some o → ((hp.push (PySem.W.kdv_tup us)).push (PySem.HandSPX.excO C hp.objs.size)).get? b = some o := by
    intro b o e; exact Heap.get?_push_of_some _ (Heap.get?_push_of_some _ e)
  have hget : ((hp.push (PySem.W.kdv_tup us)).push (PySem.HandSPX.excO C hp.objs.size)).get? (hp.objs.size + 1) = some (PySem.HandSPX.excO C hp.objs.size) := by
    heap_get
  have I2 : Inv X pins σ (upd H (hp.objs.size + 1) (exo (hp.objs.size + 1) C none)) ⟨(hp.push (PySem.W.kdv_tup us)).push (PySem.HandSPX.excO C hp.objs.size), g, dr, tk, os⟩ :=
    I.laid (t' := tk) (a := hp.objs.size + 1) kk hsz (exo_ok hget)
  have r2 : Vals (V.ref (hp.objs.size + 1) :: xs) (Value.ref (hp.objs.size + 1) :: all) := .cons rfl r
  have prom : spInit C fs (.ref (hp.objs.size + 1) :: xs) (upd H (hp.objs.size + 1) (exo (hp.objs.size + 1) C none)) (fun v H2 => v = .non ∧ Q (.ref (hp.objs.size + 1)) H2) E0 := by
    refine ⟨_, xs, rfl, hl, upd_same, fun dx H' n1 n2 g1 g2 g3 => ⟨rfl, ?_⟩⟩
    have n1' : H dx = none := by
      rw [upd_ne n2] at n1
      exact n1
    refine h _ dx H' hn n1' n2 g1 g2 fun b o e => ?_
    have nb := ne_of_none e hn
    rw [g3 b nb (ne_of_none e n1'), upd_ne nb]
    exact e
  refine wpAny_call (PySem.KX.call_kw F.excBase_ValueError (fun Y => PySem.HandSPX.refsVE_contains Y bm hbm) (I.kIn _ _ hC) (PySem.W.looks_findIn I.kIn iC) (fun self => PySem.W.bind_fn I.kIn self tI) hz
    (codeAny_mono (F1.run _ X.stack _ _ ⟨Value.ref (hp.objs.size + 1) :: us, kw⟩ (Value.ref (hp.objs.size + 1) :: all) _ _ E0 (hr.make C us kw) (I2.env0.make C us kw) (bnd fI fd iC F1 b1 b2 _ _ I2.kIn) r2 prom) fun r s' hq => ?_))
  match r, hq with
  | .ok (.ret u), hq =>
    obtain ⟨v, H2, I3, rv, ev, q3⟩ := I2.after hq
    subst ev
    exact ⟨rv, ⟨V.ref (hp.objs.size + 1), H2, I3, rfl, q3⟩⟩
theorem pe_new (E : ErrC X.prog X.w X.K X.mg X.base x C fs) (hr : Room 2 X.A) (hf : fs.length ≤ 100) (hg : Gl X x) (ha : PA X (e :: es) t) (hdb : (x == ("__debug__" : Str)) = false := by decide)
    (he : starEach (e :: es) X.env = (false, eval e X.env) :: starEach es X.env := by rfl) (hpl : (backTo pos (starEach es X.env)).any (·.1) = false := by rfl) : PE X (.Call (.Name x p) (e :: es) [] pos) (tNew C fs id t) := by
  refine ⟨fun pins s σ H Q I h => ?_⟩; refine wpAny_Call_Name_kw (ld_glob I hg E.g ?_ hdb)
  refine PySem.W.callWith_K (h₀ := X.base) I.ok.mod.kin E.oex.kC (thn (ha.run pos pins s σ H _ I h) fun us s1 ⟨vs, H1, I1, r, hl, q⟩ => ⟨I1.kIn, ?_⟩) he hpl
  have hl' : vs.length = fs.length := hl
  have hu : us.length = fs.length := r.length.symm.trans hl'
  refine run_new E hr I1 r hl' (Nat.le_of_lt (small1000 (by show us.length ≤ 1000; omega))) (fun fI fd _ _ b1 _ s u X' => ?_) q
  have := b1 s (u :: us) X' (by rw [List.append_nil, List.length_cons, hu]; rfl)
  rw [List.append_nil] at this
  exact this
theorem pe_newK (E : ErrC X.prog X.w X.K X.mg X.base x C fs) (hr : Room 2 X.A) (hg : Gl X x) (hkw : PK X kws t)
    (hall : (backToKw pos (keywordEach kws X.env)).all (·.1.isSome) = true := by rfl) (hks : (backToKw pos (keywordEach kws X.env)).filterMap (·.1) = fs := by rfl) (hdb : (x == ("__debug__" : Str)) = false := by decide)
    (hpl : ((backTo pos (starEach [] X.env)).any (·.1) || (backToKw pos (keywordEach kws X.env)).any (·.1.isNone)) = false := by rfl) : PE X (.Call (.Name x p) [] kws pos) (tNew C fs id t) := by
  refine ⟨fun pins s σ H Q I h => ?_⟩; refine wpAny_Call_Name_kw (ld_glob I hg E.g ?_ hdb)
  refine PySem.W.callWith_KW0 (h₀ := X.base) I.ok.mod.kin E.oex.kC hall ?_ hpl
  refine thn (hkw.run pos pins s σ H _ I h) fun ws s2 ⟨zs, H2, I2, rz, hl, q⟩ => ⟨I2.kIn, ?_⟩
  rw [hks]
  have hl' : zs.length = fs.length := hl
  exact run_new (us := []) E hr I2 rz hl' (Nat.zero_le _) (fun fI fd _ _ _ b2 s u _ => (b2 s u ws (rz.length.symm.trans hl')).1) q
/-- the keywords the other way round -/
theorem pe_newKR (E : ErrC X.prog X.w X.K X.mg X.base x C fs) (hr : Room 2 X.A) (hg : Gl X x) (hkw : PK X kws t)
    (hall : (backToKw pos (keywordEach kws X.env)).all (·.1.isSome) = true := by rfl) (hks : (backToKw pos (keywordEach kws X.env)).filterMap (·.1) = fs.reverse := by rfl) (hdb : (x == ("__debug__" : Str)) = false := by decide)
    (hpl : ((backTo pos (starEach [] X.env)).any (·.1) || (backToKw pos (keywordEach kws X.env)).any (·.1.isNone)) = false := by rfl) : PE X (.Call (.Name x p) [] kws pos) (tNew C fs List.reverse t) := by
  refine ⟨fun pins s σ H Q I h => ?_⟩; refine wpAny_Call_Name_kw (ld_glob I hg E.g ?_ hdb)
  refine PySem.W.callWith_KW0 (h₀ := X.base) I.ok.mod.kin E.oex.kC hall ?_ hpl
  refine thn (hkw.run pos pins s σ H _ I h) fun ws s2 ⟨zs, H2, I2, rz, hl, q⟩ => ⟨I2.kIn, ?_⟩
  rw [hks]
  have hl' : zs.reverse.length = fs.length := hl
  have rr : Vals zs.reverse ws.reverse := by
    have key : ∀ {a : List V} {b : List Value}, Vals a b → Vals a.reverse b.reverse := by
      intro a b r
      induction r with
      | nil => exact .nil
      | cons r1 _ ih =>
        rw [List.reverse_cons, List.reverse_cons]; exact ih.append (.cons r1 .nil)
    exact key rz
  refine run_new (us := []) E hr I2 rr hl' (Nat.zero_le _) (fun fI fd _ _ _ b2 s u _ => ?_) q
  have := (b2 s u ws.reverse (rr.length.symm.trans hl')).2
  rw [List.reverse_reverse] at this
  exact this
/-- C(), a class without an __init__ of its own -/
theorem pe_new0 (q : PySem.W.excIn X.K C [.type "ValueError", .type "Exception", .type "BaseException", .type "object"] "ValueError.__new__" = true) (gC : X.mg x = some (.ref C)) (kC : PySem.W.keepIn X.K (.ref C) = true) (hg : Gl X x) (hdb : (x == ("__debug__" : Str)) = false := by decide) :
    PE X (.Call (.Name x p) [] [] pos) (fun σ H Q => ∀ a, H a = none → Q (.ref a) (upd H a (exo a C none))) := by
  refine ⟨fun pins s σ H Q I h => ?_⟩; refine wpAny_Call_Name_kw (ld_glob I hg gC ?_ hdb)
  refine PySem.W.callWith_K0 I.kIn kC ?_
  show wpAny _ _ (call (.ref C) []) _ _ _
  obtain ⟨bm, N, nm, qn, bs, hdct, sn, sub, ab, col, dd, k0, k1, k2, k3, k5, mN, hC, hN, hni, T⟩ := exc_obj I.kIn q
  refine wpAny_call_exc_subT F.excBase_ValueError T hC hN hni (fun h' a hm => ?_) (Nat.zero_le _)
  have hn : H a = none := I.hok.gone hm.new
  obtain ⟨t, ht, _, _⟩ := hm.there; exact ⟨.ref a, upd H a (exo a C none), I.laidN hm.keeps hm.new hn (exo_ok ht), rfl, h a hn⟩
end
end KB
namespace KB
open PySem L2 PySem.Spec PyProof.Rows
section
variable {P : Program} {w : World} {K : PySem.W.Frag} {mg : Str → Option Value} {base : Heap} {C : Addr}
theorem FnScope.vis {N ps : List Str} {sc : Scope} (S : FnScope N ps sc) {x : Str} (h : x ∈ ps) : Vis sc x := (S.par x h).elim .inl fun z => .inr (.inl z)
/-- def __init__(self, f): self.f = f -/
theorem ini1 {qual f : Str} {params : Arguments} {scope : Scope} {q1 q2 q3 q4 : Pos} {fI : Addr} {fd : FuncData}
    (F : FunD K "__init__" qual params [.Assign [.Attribute (.Name "self" q1) f q2] (.Name f q3) q4] scope [] [] fI fd) (S : FnScope ["self", f] ["self", f] scope) (T : OexC K C) (hno : PySem.W.findIn K (.ref C) f = some none)
    (hd : (f == ("__debug__" : Str)) = false) (hc : (f == ("__classdict__" : Str)) = false) : FnOk P w K mg base CX0 1 fI fd ["self", f] (spInit C [f]) := by
  refine F.ok S (fun vs H Q E h => ?_) (fun cdv A outer s H vs Q E hr h => ?_)
  · obtain ⟨a, xs, rfl, hl, _⟩ := h
    exact congrArg (· + 1) hl
  · obtain ⟨a, xs, rfl, hl, ha, q⟩ := h
    match xs, hl with
    | [y], _ =>
      refine ⟨_, PSs.nox (pss_one (ps_ost (pv 0 rfl (FnScope.vis S (by simp))) (pv 1 rfl (FnScope.vis S (by simp)) hd hc))), ?_⟩
      refine ⟨_, rfl, _, rfl, a, C, rfl, T, hno, .inl ⟨ha, fun dx n ne => ?_⟩⟩
      refine q dx _ n ne upd_same ?_ fun b b1 b2 => ?_
      · rw [upd_ne ne, upd_same]
        rfl
      · rw [upd_ne b1, upd_ne b2]
/-- def __init__(self, f, g): self.f = f; self.g = g -/
theorem ini2 {qual f g : Str} {params : Arguments} {scope : Scope} {q1 q2 q3 q4 p1 p2 p3 p4 : Pos} {fI : Addr} {fd : FuncData}
    (F : FunD K "__init__" qual params [.Assign [.Attribute (.Name "self" q1) f q2] (.Name f q3) q4, .Assign [.Attribute (.Name "self" p1) g p2] (.Name g p3) p4] scope [] [] fI fd) (S : FnScope ["self", f, g] ["self", f, g] scope) (T : OexC K C)
    (hno : PySem.W.findIn K (.ref C) f = some none) (hno2 : PySem.W.findIn K (.ref C) g = some none)
    (hd : (f == ("__debug__" : Str)) = false) (hc : (f == ("__classdict__" : Str)) = false) (hd2 : (g == ("__debug__" : Str)) = false) (hc2 : (g == ("__classdict__" : Str)) = false) : FnOk P w K mg base CX0 1 fI fd ["self", f, g] (spInit C [f, g]) := by
  refine F.ok S (fun vs H Q E h => ?_) (fun cdv A outer s H vs Q E hr h => ?_)
  · obtain ⟨a, xs, rfl, hl, _⟩ := h
    exact congrArg (· + 1) hl
  · obtain ⟨a, xs, rfl, hl, ha, q⟩ := h
    match xs, hl with
    | [y, z], _ =>
      refine ⟨_, PSs.nox (pss_cons (ps_ost (pv 0 rfl (FnScope.vis S (by simp))) (pv 1 rfl (FnScope.vis S (by simp)) hd hc)) (pss_one (ps_ost (pv 0 rfl (FnScope.vis S (by simp))) (pv 2 rfl (FnScope.vis S (by simp)) hd2 hc2)))), ?_⟩
      refine ⟨_, rfl, _, rfl, a, C, rfl, T, hno, .inl ⟨ha, fun dx n ne => ?_⟩⟩
      refine ⟨_, rfl, _, rfl, a, C, rfl, T, hno2, .inr ⟨dx, _, upd_same, Eq.trans (upd_ne ne) upd_same, (by show 1 ≤ 900; decide), ?_⟩⟩
      refine q dx _ n ne ?_ upd_same fun b b1 b2 => ?_
      · rw [upd_ne ne.symm, upd_same]
      · rw [upd_ne b2, upd_ne b1, upd_ne b2]
end
/-- what the written part says of an error's class -/
def oexB (K : PySem.W.Frag) (C : Addr) : Bool := (match K.lookup C with
  | some ⟨.type "type", _od, .cls cd, sl⟩ => (match cd.mro, sl.toList with
    | .ref C' :: bm, [_, _, _, _, some (.builtin n), _] => C' == C && (n == "ValueError.__new__" && (!cd.hasDel && (cd.hasDict && PySem.HandSPX.refsVE bm)))
    | _, _ => false)
  | _ => false) && (decide (PySem.W.findIn K (.ref C) "__setattr__" = some (some (.builtin "object.__setattr__"))) && (decide (PySem.W.subIn K (.ref C) (.type "BaseException") = some true) &&
    (decide (PySem.W.typeIn K (.ref C) = some (.type "type")) && PySem.W.keepIn K (.ref C))))
theorem oexB_ok {K : PySem.W.Frag} {C : Addr} (h : oexB K C = true) : OexC K C := by
  obtain ⟨h1, h⟩ := Bool.and_eq_true_iff.mp h; obtain ⟨h2, h⟩ := Bool.and_eq_true_iff.mp h
  obtain ⟨h3, h⟩ := Bool.and_eq_true_iff.mp h
  obtain ⟨h4, h5⟩ := Bool.and_eq_true_iff.mp h
  refine ⟨?_, of_decide_eq_true h2, of_decide_eq_true h3, of_decide_eq_true h4, h5⟩
  split at h1
  · rename_i dd cd sl ho
    split at h1
    · rename_i C' bm k0 k1 k2 k3 n k5 hm hs; simp only [Bool.and_eq_true, beq_iff_eq, Bool.not_eq_true'] at h1
      obtain ⟨rfl, rfl, hdel, hdct, hbm⟩ := h1; obtain ⟨nm, bs, mro, ns, qn, hd, sn, sub, ab, col, del⟩ := cd
      dsimp only at hm hdel hdct
      subst hm hdel hdct
      have hsl : sl = #[k0, k1, k2, k3, some (.builtin "ValueError.__new__"), k5] := by
        obtain ⟨l⟩ := sl
        have hs' : l = _ := hs
        rw [hs']
      subst hsl
      exact ⟨nm, qn, ns, bs, bm, sn, sub, ab, col, dd, k0, k1, k2, k3, k5, ho, hbm⟩
    · cases h1
  · cases h1
def iscB (K : PySem.W.Frag) (C : Addr) : Bool := decide (PySem.W.findIn K (.ref C) "__getattribute__" = some (some (.builtin "BaseException.__getattribute__"))) && (decide (PySem.W.findIn K (.ref C) "__getattr__" = some none) &&
  (decide (PySem.W.subIn K (.ref C) (.type "BaseException") = some true) && (PySem.W.hasDictIn K C && (decide (PySem.W.findIn K (.ref C) "__class__" = some (some (.builtin "object.__class__"))) &&
  (decide (PySem.W.specialIn K (.builtin "object.__class__") "__get__" = some (some (.builtin "getset_descriptor.__get__"))) && (decide (PySem.W.takesIn K (.builtin "object.__class__") = some true) && decide (PySem.W.mroIn K C (.type "object") = some true)))))))
theorem iscB_ok {K : PySem.W.Frag} {C : Addr} (h : iscB K C = true) : IsC K C := by
  obtain ⟨h1, h⟩ := Bool.and_eq_true_iff.mp h; obtain ⟨h2, h⟩ := Bool.and_eq_true_iff.mp h
  obtain ⟨h3, h⟩ := Bool.and_eq_true_iff.mp h
  obtain ⟨h4, h⟩ := Bool.and_eq_true_iff.mp h
  obtain ⟨h5, h⟩ := Bool.and_eq_true_iff.mp h
  obtain ⟨h6, h⟩ := Bool.and_eq_true_iff.mp h
  obtain ⟨h7, h8⟩ := Bool.and_eq_true_iff.mp h
  exact ⟨of_decide_eq_true h1, of_decide_eq_true h2, of_decide_eq_true h3, h4, of_decide_eq_true h5, of_decide_eq_true h6, of_decide_eq_true h7, of_decide_eq_true h8⟩
theorem IsC.xf {K : PySem.W.Frag} {C : Addr} (h : IsC K C) : XfC K C := ⟨h.ga, h.gg, h.sub, h.dct⟩
end KB
namespace K1
open PySem PySem.Spec PyProof.Rows L2 KB
/-! ### the classes of errors -/
def clsL : List (Str × Nat × List Str) := [("InvalidKind", 2, ["given"]), ("InvalidValue", 3, ["given"]), ("InvalidLine", 4, ["given"]), ("InvalidThing", 5, ["given"]), ("TooMany", 6, ["given"]), ("InvalidTable", 7, ["given"]), ("InvalidNumber", 8, ["given"]), ("InvalidFilling", 9, ["index"]), ("InvalidContext", 10, ["index"]), ("InvalidArguments", 11, ["index"]), ("InvalidRelation", 12, ["index"]), ("NotRelated", 13, ["index"]), ("InvalidShape", 14, ["index"]), ("InvalidThings", 15, ["index"]), ("InvalidAnswers", 16, ["index"]), ("InvalidNumbers", 17, ["index"]), ("InvalidRuns", 18, ["index"]), ("InvalidTerm", 19, ["place"]), ("WrongTerm", 20, ["place"]), ("InvalidText", 21, ["line", "column"]), ("NotData", 22, ["kind"]), ("NotFirst", 23, ["kind"]), ("NotTested", 24, ["kind"]), ("NotPutting", 25, ["kind"]), ("Unfilled", 26, ["var"]), ("UnlikeKinds", 27, [])]
def names : List Str := clsL.map (·.1)
def fnL : List (Str × Nat) := [("_law_well", 29), ("_law_draw", 30), ("_law_pick", 31), ("_law_same", 32), ("_law_odd", 33), ("_law_thing", 34), ("_law_by_place", 35), ("_law_late_by_place", 36),
  ("_law_by_name", 37), ("_law_late_by_name", 38), ("_law_kept", 39), ("_law_of_classes", 40), ("_law_is_of", 41), ("_law_are_right", 42), ("_law_met", 43), ("_law_right", 44), ("law", 45)]
def dG (x : Str) (i : Nat) : He.DefD := ⟨(x, none), x, x, defArgs (top i), defBody (top i), defScope (top i), [], []⟩
def dI (x : Str) (i : Nat) : He.DefD := ⟨(x, some "__init__"), "__init__", x ++ ".__init__", defArgs (inClass (top i) 0), defBody (inClass (top i) 0), defScope (inClass (top i) 0), [], []⟩
def fn : List He.DefD := (fnL.map fun p => dG p.1 p.2) ++ (clsL.take 25).map fun p => dI p.1 p.2.1
def noB (K : PySem.W.Frag) (x f : Str) : Bool := decide (PySem.W.findIn K (.ref (He.ga K x)) f = some none)
def inB (K : PySem.W.Frag) (x : Str) : Bool := decide (PySem.W.findIn K (.ref (He.ga K x)) "__init__" = some (some (.ref (He.ma K (He.ga K x) "__init__")))) && decide (PySem.W.typeIn K (.ref (He.ma K (He.ga K x) "__init__")) = some (.type "function"))
def veL : List Value := [.type "ValueError", .type "Exception", .type "BaseException", .type "object"]
def exB (K : PySem.W.Frag) : Bool :=
  (K.lookup sysModules).isSome && ((names.all fun x => oexB K (He.ga K x) && iscB K (He.ga K x)) && ((clsL.all fun p => p.2.2.all fun f => noB K p.1 f) && (((names.take 25).all fun x => inB K x) &&
  ((names.all fun x => names.all fun y => decide (PySem.W.kitOne K (.ref (He.ga K x)) (.ref (He.ga K y)) = some (decide (x = y)))) &&
  ((names.all fun x => decide (PySem.W.kitOne K (.ref (He.ga K x)) (.ref (He.ga K "KindError")) = some true) && (decide (PySem.W.kitOne K (.ref (He.ga K x)) (.type "ValueError") = some true) && (decide (PySem.W.kitOne K (.ref (He.ga K x)) (.type "Exception") = some true) &&
     decide (PySem.W.kitAny K (.ref (He.ga K x)) [.type "ArithmeticError", .type "LookupError", .type "TypeError", .type "RuntimeError", .type "AttributeError"] = some false)))) &&
  ((oexB K (He.ga K "KindError") && iscB K (He.ga K "KindError")) && ((PySem.W.excIn K (He.ga K "UnlikeKinds") veL "ValueError.__new__" && PySem.W.excIn K (He.ga K "KindError") veL "ValueError.__new__") &&
  ((names.all fun y => decide (PySem.W.kitOne K (.ref (He.ga K "KindError")) (.ref (He.ga K y)) = some false)) && (decide (PySem.W.kitOne K (.ref (He.ga K "KindError")) (.type "ValueError") = some true) &&
  ((names ++ (["KindError"] : List Str)).all fun x => (names ++ (["KindError"] : List Str)).all fun y => decide (PySem.W.exmOne K (.ref (He.ga K x)) (.ref (He.ga K y)) = some (decide (x = y ∨ y = "KindError")))))))))))))
def tyL : List Str := ["ValueError", "Exception", "ArithmeticError", "LookupError", "TypeError", "RuntimeError", "AttributeError"]
/-- what the top has left -/
structure Top (K : PySem.W.Frag) (mg : Str → Option Value) : Prop where
  bl : Bl K mg
  ty : ∀ x ∈ tyL, mg x = none
  ex : exB K = true
  fns : ∀ p ∈ fnL, mg p.1 = some (.ref (He.ga K p.1))
  cls : ∀ x ∈ names ++ (["KindError"] : List Str), mg x = some (.ref (He.ga K x))
  def_ : ∀ d ∈ fn, ∃ fd, FunD K d.name d.qual d.params d.body d.scope [] [] (He.fAd K d.at_) fd
section
variable {K : PySem.W.Frag} {mg : Str → Option Value} {base : Heap} {P : Program} {w : World}
theorem Top.e1 (T : Top K mg) : ∀ x ∈ names, OexC K (He.ga K x) ∧ IsC K (He.ga K x) := fun x hx => by
  have h := (He.ba (He.ba T.ex).2).1
  obtain ⟨h1, h2⟩ := He.ba (List.all_eq_true.mp h x hx)
  exact ⟨oexB_ok h1, iscB_ok h2⟩
theorem Top.e2 (T : Top K mg) : ∀ p ∈ clsL, ∀ f ∈ p.2.2, PySem.W.findIn K (.ref (He.ga K p.1)) f = some none := fun p hp f hf => by
  have h := (He.ba (He.ba (He.ba T.ex).2).2).1
  exact of_decide_eq_true (List.all_eq_true.mp (List.all_eq_true.mp h p hp) f hf)
theorem Top.e3 (T : Top K mg) : ∀ x ∈ names.take 25, PySem.W.findIn K (.ref (He.ga K x)) "__init__" = some (some (.ref (He.ma K (He.ga K x) "__init__"))) ∧ PySem.W.typeIn K (.ref (He.ma K (He.ga K x) "__init__")) = some (.type "function") := fun x hx => by
  have h := (He.ba (He.ba (He.ba (He.ba T.ex).2).2).2).1
  obtain ⟨h1, h2⟩ := He.ba (List.all_eq_true.mp h x hx)
  exact ⟨of_decide_eq_true h1, of_decide_eq_true h2⟩
theorem Top.e4 (T : Top K mg) : ∀ x ∈ names, ∀ y ∈ names, PySem.W.kitOne K (.ref (He.ga K x)) (.ref (He.ga K y)) = some (decide (x = y)) := fun x hx y hy => by
  have h := (He.ba (He.ba (He.ba (He.ba (He.ba T.ex).2).2).2).2).1
  exact of_decide_eq_true (List.all_eq_true.mp (List.all_eq_true.mp h x hx) y hy)
theorem Top.e5 (T : Top K mg) : ∀ x ∈ names, PySem.W.kitOne K (.ref (He.ga K x)) (.ref (He.ga K "KindError")) = some true ∧ PySem.W.kitOne K (.ref (He.ga K x)) (.type "ValueError") = some true ∧ PySem.W.kitOne K (.ref (He.ga K x)) (.type "Exception") = some true ∧
     PySem.W.kitAny K (.ref (He.ga K x)) [.type "ArithmeticError", .type "LookupError", .type "TypeError", .type "RuntimeError", .type "AttributeError"] = some false := fun x hx => by
  have h := (He.ba (He.ba (He.ba (He.ba (He.ba (He.ba T.ex).2).2).2).2).2).1
  obtain ⟨h1, h⟩ := He.ba (List.all_eq_true.mp h x hx)
  obtain ⟨h2, h⟩ := He.ba h
  obtain ⟨h3, h4⟩ := He.ba h
  exact ⟨of_decide_eq_true h1, of_decide_eq_true h2, of_decide_eq_true h3, of_decide_eq_true h4⟩
theorem Top.e6 (T : Top K mg) : (OexC K (He.ga K "KindError") ∧ IsC K (He.ga K "KindError")) ∧ PySem.W.excIn K (He.ga K "UnlikeKinds") veL "ValueError.__new__" = true ∧ PySem.W.excIn K (He.ga K "KindError") veL "ValueError.__new__" = true ∧
    (∀ y ∈ names, PySem.W.kitOne K (.ref (He.ga K "KindError")) (.ref (He.ga K y)) = some false) ∧ PySem.W.kitOne K (.ref (He.ga K "KindError")) (.type "ValueError") = some true ∧
    ∀ x ∈ names ++ (["KindError"] : List Str), ∀ y ∈ names ++ (["KindError"] : List Str), PySem.W.exmOne K (.ref (He.ga K x)) (.ref (He.ga K y)) = some (decide (x = y ∨ y = "KindError")) := by
  have h := (He.ba (He.ba (He.ba (He.ba (He.ba (He.ba T.ex).2).2).2).2).2).2
  obtain ⟨h0, h⟩ := He.ba h
  obtain ⟨h1, h2⟩ := He.ba h0
  obtain ⟨h0, h⟩ := He.ba h
  obtain ⟨h3, h4⟩ := He.ba h0
  obtain ⟨h5, h⟩ := He.ba h
  obtain ⟨h6, h7⟩ := He.ba h
  exact ⟨⟨oexB_ok h1, iscB_ok h2⟩, h3, h4, fun y hy => of_decide_eq_true (List.all_eq_true.mp h5 y hy), of_decide_eq_true h6, fun x hx y hy => of_decide_eq_true (List.all_eq_true.mp (List.all_eq_true.mp h7 x hx) y hy)⟩
theorem Top.sys (T : Top K mg) : SysIn K := Option.isSome_iff_exists.mp (He.ba T.ex).1
abbrev Err (P : Program) (w : World) (K : PySem.W.Frag) (mg : Str → Option Value) (base : Heap) (x : Str) (fs : List Str) : Prop := ErrC P w K mg base x (He.ga K x) fs
theorem err_InvalidKind (T : Top K mg) : Err P w K mg base "InvalidKind" ["given"] := by
  obtain ⟨fd, F⟩ := T.def_ (dI "InvalidKind" 2) (List.mem_append_right _ (List.mem_map.mpr ⟨("InvalidKind", 2, ["given"]), List.mem_of_getElem? (i := 0) rfl, rfl⟩))
  have S : FnScope ["self", "given"] ["self", "given"] (defScope (inClass (top 2) 0)) := ⟨rfl, rfl, rfl, by decide +kernel, rfl, by decide +kernel, by decide +kernel⟩
  have O := T.e1 "InvalidKind" (by decide +kernel)
  have N := T.e3 "InvalidKind" (by decide +kernel)
  refine ⟨T.cls _ (by decide +kernel), O.1, _, fd, N.1, N.2, ini1 F S O.1 (T.e2 ("InvalidKind", 2, ["given"]) (by decide +kernel) "given" (by decide +kernel)) (by decide +kernel) (by decide +kernel), FunD.bindsN F fun _ _ _ _ _ _ us hl => match us, hl with | [_, _], _ => rfl, fun s u ws hl => ?_⟩
  obtain ⟨oc, od, dV, kV, doc, pm, an, cdv, ct, osl, rfl, lk, hcd, hD, hK⟩ := F.ex; rcases hD with ⟨_, rfl⟩ | ⟨e, _⟩
  · match ws, hl with
    | [_], _ => exact ⟨.of_eq (by rfl), .of_eq (by rfl)⟩
  · exact absurd rfl e
theorem err_InvalidValue (T : Top K mg) : Err P w K mg base "InvalidValue" ["given"] := by
  obtain ⟨fd, F⟩ := T.def_ (dI "InvalidValue" 3) (List.mem_append_right _ (List.mem_map.mpr ⟨("InvalidValue", 3, ["given"]), List.mem_of_getElem? (i := 1) rfl, rfl⟩))
  have S : FnScope ["self", "given"] ["self", "given"] (defScope (inClass (top 3) 0)) := ⟨rfl, rfl, rfl, by decide +kernel, rfl, by decide +kernel, by decide +kernel⟩
  have O := T.e1 "InvalidValue" (by decide +kernel)
  have N := T.e3 "InvalidValue" (by decide +kernel)
  refine ⟨T.cls _ (by decide +kernel), O.1, _, fd, N.1, N.2, ini1 F S O.1 (T.e2 ("InvalidValue", 3, ["given"]) (by decide +kernel) "given" (by decide +kernel)) (by decide +kernel) (by decide +kernel), FunD.bindsN F fun _ _ _ _ _ _ us hl => match us, hl with | [_, _], _ => rfl, fun s u ws hl => ?_⟩
  obtain ⟨oc, od, dV, kV, doc, pm, an, cdv, ct, osl, rfl, lk, hcd, hD, hK⟩ := F.ex; rcases hD with ⟨_, rfl⟩ | ⟨e, _⟩
  · match ws, hl with
    | [_], _ => exact ⟨.of_eq (by rfl), .of_eq (by rfl)⟩
  · exact absurd rfl e
theorem err_InvalidLine (T : Top K mg) : Err P w K mg base "InvalidLine" ["given"] := by
  obtain ⟨fd, F⟩ := T.def_ (dI "InvalidLine" 4) (List.mem_append_right _ (List.mem_map.mpr ⟨("InvalidLine", 4, ["given"]), List.mem_of_getElem? (i := 2) rfl, rfl⟩))
  have S : FnScope ["self", "given"] ["self", "given"] (defScope (inClass (top 4) 0)) := ⟨rfl, rfl, rfl, by decide +kernel, rfl, by decide +kernel, by decide +kernel⟩
  have O := T.e1 "InvalidLine" (by decide +kernel)
  have N := T.e3 "InvalidLine" (by decide +kernel)
  refine ⟨T.cls _ (by decide +kernel), O.1, _, fd, N.1, N.2, ini1 F S O.1 (T.e2 ("InvalidLine", 4, ["given"]) (by decide +kernel) "given" (by decide +kernel)) (by decide +kernel) (by decide +kernel), FunD.bindsN F fun _ _ _ _ _ _ us hl => match us, hl with | [_, _], _ => rfl, fun s u ws hl => ?_⟩
  obtain ⟨oc, od, dV, kV, doc, pm, an, cdv, ct, osl, rfl, lk, hcd, hD, hK⟩ := F.ex; rcases hD with ⟨_, rfl⟩ | ⟨e, _⟩
  · match ws, hl with
    | [_], _ => exact ⟨.of_eq (by rfl), .of_eq (by rfl)⟩
  · exact absurd rfl e
theorem err_InvalidThing (T : Top K mg) : Err P w K mg base "InvalidThing" ["given"] := by
  obtain ⟨fd, F⟩ := T.def_ (dI "InvalidThing" 5) (List.mem_append_right _ (List.mem_map.mpr ⟨("InvalidThing", 5, ["given"]), List.mem_of_getElem? (i := 3) rfl, rfl⟩))
  have S : FnScope ["self", "given"] ["self", "given"] (defScope (inClass (top 5) 0)) := ⟨rfl, rfl, rfl, by decide +kernel, rfl, by decide +kernel, by decide +kernel⟩
  have O := T.e1 "InvalidThing" (by decide +kernel)
  have N := T.e3 "InvalidThing" (by decide +kernel)
  refine ⟨T.cls _ (by decide +kernel), O.1, _, fd, N.1, N.2, ini1 F S O.1 (T.e2 ("InvalidThing", 5, ["given"]) (by decide +kernel) "given" (by decide +kernel)) (by decide +kernel) (by decide +kernel), FunD.bindsN F fun _ _ _ _ _ _ us hl => match us, hl with | [_, _], _ => rfl, fun s u ws hl => ?_⟩
  obtain ⟨oc, od, dV, kV, doc, pm, an, cdv, ct, osl, rfl, lk, hcd, hD, hK⟩ := F.ex; rcases hD with ⟨_, rfl⟩ | ⟨e, _⟩
  · match ws, hl with
    | [_], _ => exact ⟨.of_eq (by rfl), .of_eq (by rfl)⟩
  · exact absurd rfl e
theorem err_TooMany (T : Top K mg) : Err P w K mg base "TooMany" ["given"] := by
  obtain ⟨fd, F⟩ := T.def_ (dI "TooMany" 6) (List.mem_append_right _ (List.mem_map.mpr ⟨("TooMany", 6, ["given"]), List.mem_of_getElem? (i := 4) rfl, rfl⟩))
  have S : FnScope ["self", "given"] ["self", "given"] (defScope (inClass (top 6) 0)) := ⟨rfl, rfl, rfl, by decide +kernel, rfl, by decide +kernel, by decide +kernel⟩
  have O := T.e1 "TooMany" (by decide +kernel)
  have N := T.e3 "TooMany" (by decide +kernel)
  refine ⟨T.cls _ (by decide +kernel), O.1, _, fd, N.1, N.2, ini1 F S O.1 (T.e2 ("TooMany", 6, ["given"]) (by decide +kernel) "given" (by decide +kernel)) (by decide +kernel) (by decide +kernel), FunD.bindsN F fun _ _ _ _ _ _ us hl => match us, hl with | [_, _], _ => rfl, fun s u ws hl => ?_⟩
  obtain ⟨oc, od, dV, kV, doc, pm, an, cdv, ct, osl, rfl, lk, hcd, hD, hK⟩ := F.ex; rcases hD with ⟨_, rfl⟩ | ⟨e, _⟩
  · match ws, hl with
    | [_], _ => exact ⟨.of_eq (by rfl), .of_eq (by rfl)⟩
  · exact absurd rfl e
theorem err_InvalidTable (T : Top K mg) : Err P w K mg base "InvalidTable" ["given"] := by
  obtain ⟨fd, F⟩ := T.def_ (dI "InvalidTable" 7) (List.mem_append_right _ (List.mem_map.mpr ⟨("InvalidTable", 7, ["given"]), List.mem_of_getElem? (i := 5) rfl, rfl⟩))
  have S : FnScope ["self", "given"] ["self", "given"] (defScope (inClass (top 7) 0)) := ⟨rfl, rfl, rfl, by decide +kernel, rfl, by decide +kernel, by decide +kernel⟩
  have O := T.e1 "InvalidTable" (by decide +kernel)
  have N := T.e3 "InvalidTable" (by decide +kernel)
  refine ⟨T.cls _ (by decide +kernel), O.1, _, fd, N.1, N.2, ini1 F S O.1 (T.e2 ("InvalidTable", 7, ["given"]) (by decide +kernel) "given" (by decide +kernel)) (by decide +kernel) (by decide +kernel), FunD.bindsN F fun _ _ _ _ _ _ us hl => match us, hl with | [_, _], _ => rfl, fun s u ws hl => ?_⟩
  obtain ⟨oc, od, dV, kV, doc, pm, an, cdv, ct, osl, rfl, lk, hcd, hD, hK⟩ := F.ex; rcases hD with ⟨_, rfl⟩ | ⟨e, _⟩
  · match ws, hl with
    | [_], _ => exact ⟨.of_eq (by rfl), .of_eq (by rfl)⟩
  · exact absurd rfl e
theorem err_InvalidNumber (T : Top K mg) : Err P w K mg base "InvalidNumber" ["given"] := by
  obtain ⟨fd, F⟩ := T.def_ (dI "InvalidNumber" 8) (List.mem_append_right _ (List.mem_map.mpr ⟨("InvalidNumber", 8, ["given"]), List.mem_of_getElem? (i := 6) rfl, rfl⟩))
  have S : FnScope ["self", "given"] ["self", "given"] (defScope (inClass (top 8) 0)) := ⟨rfl, rfl, rfl, by decide +kernel, rfl, by decide +kernel, by decide +kernel⟩
  have O := T.e1 "InvalidNumber" (by decide +kernel)
  have N := T.e3 "InvalidNumber" (by decide +kernel)
  refine ⟨T.cls _ (by decide +kernel), O.1, _, fd, N.1, N.2, ini1 F S O.1 (T.e2 ("InvalidNumber", 8, ["given"]) (by decide +kernel) "given" (by decide +kernel)) (by decide +kernel) (by decide +kernel), FunD.bindsN F fun _ _ _ _ _ _ us hl => match us, hl with | [_, _], _ => rfl, fun s u ws hl => ?_⟩
  obtain ⟨oc, od, dV, kV, doc, pm, an, cdv, ct, osl, rfl, lk, hcd, hD, hK⟩ := F.ex; rcases hD with ⟨_, rfl⟩ | ⟨e, _⟩
  · match ws, hl with
    | [_], _ => exact ⟨.of_eq (by rfl), .of_eq (by rfl)⟩
  · exact absurd rfl e
theorem err_InvalidFilling (T : Top K mg) : Err P w K mg base "InvalidFilling" ["index"] := by
  obtain ⟨fd, F⟩ := T.def_ (dI "InvalidFilling" 9) (List.mem_append_right _ (List.mem_map.mpr ⟨("InvalidFilling", 9, ["index"]), List.mem_of_getElem? (i := 7) rfl, rfl⟩))
  have S : FnScope ["self", "index"] ["self", "index"] (defScope (inClass (top 9) 0)) := ⟨rfl, rfl, rfl, by decide +kernel, rfl, by decide +kernel, by decide +kernel⟩
  have O := T.e1 "InvalidFilling" (by decide +kernel)
  have N := T.e3 "InvalidFilling" (by decide +kernel)
  refine ⟨T.cls _ (by decide +kernel), O.1, _, fd, N.1, N.2, ini1 F S O.1 (T.e2 ("InvalidFilling", 9, ["index"]) (by decide +kernel) "index" (by decide +kernel)) (by decide +kernel) (by decide +kernel), FunD.bindsN F fun _ _ _ _ _ _ us hl => match us, hl with | [_, _], _ => rfl, fun s u ws hl => ?_⟩
  obtain ⟨oc, od, dV, kV, doc, pm, an, cdv, ct, osl, rfl, lk, hcd, hD, hK⟩ := F.ex; rcases hD with ⟨_, rfl⟩ | ⟨e, _⟩
  · match ws, hl with
    | [_], _ => exact ⟨.of_eq (by rfl), .of_eq (by rfl)⟩
  · exact absurd rfl e
theorem err_InvalidContext (T : Top K mg) : Err P w K mg base "InvalidContext" ["index"] := by
  obtain ⟨fd, F⟩ := T.def_ (dI "InvalidContext" 10) (List.mem_append_right _ (List.mem_map.mpr ⟨("InvalidContext", 10, ["index"]), List.mem_of_getElem? (i := 8) rfl, rfl⟩))
  have S : FnScope ["self", "index"] ["self", "index"] (defScope (inClass (top 10) 0)) := ⟨rfl, rfl, rfl, by decide +kernel, rfl, by decide +kernel, by decide +kernel⟩
  have O := T.e1 "InvalidContext" (by decide +kernel)
  have N := T.e3 "InvalidContext" (by decide +kernel)
  refine ⟨T.cls _ (by decide +kernel), O.1, _, fd, N.1, N.2, ini1 F S O.1 (T.e2 ("InvalidContext", 10, ["index"]) (by decide +kernel) "index" (by decide +kernel)) (by decide +kernel) (by decide +kernel), FunD.bindsN F fun _ _ _ _ _ _ us hl => match us, hl with | [_, _], _ => rfl, fun s u ws hl => ?_⟩
  obtain ⟨oc, od, dV, kV, doc, pm, an, cdv, ct, osl, rfl, lk, hcd, hD, hK⟩ := F.ex; rcases hD with ⟨_, rfl⟩ | ⟨e, _⟩
  · match ws, hl with
    | [_], _ => exact ⟨.of_eq (by rfl), .of_eq (by rfl)⟩
  · exact absurd rfl e
theorem err_InvalidArguments (T : Top K mg) : Err P w K mg base "InvalidArguments" ["index"] := by
  obtain ⟨fd, F⟩ := T.def_ (dI "InvalidArguments" 11) (List.mem_append_right _ (List.mem_map.mpr ⟨("InvalidArguments", 11, ["index"]), List.mem_of_getElem? (i := 9) rfl, rfl⟩))
  have S : FnScope ["self", "index"] ["self", "index"] (defScope (inClass (top 11) 0)) := ⟨rfl, rfl, rfl, by decide +kernel, rfl, by decide +kernel, by decide +kernel⟩
  have O := T.e1 "InvalidArguments" (by decide +kernel)
  have N := T.e3 "InvalidArguments" (by decide +kernel)
  refine ⟨T.cls _ (by decide +kernel), O.1, _, fd, N.1, N.2, ini1 F S O.1 (T.e2 ("InvalidArguments", 11, ["index"]) (by decide +kernel) "index" (by decide +kernel)) (by decide +kernel) (by decide +kernel), FunD.bindsN F fun _ _ _ _ _ _ us hl => match us, hl with | [_, _], _ => rfl, fun s u ws hl => ?_⟩
  obtain ⟨oc, od, dV, kV, doc, pm, an, cdv, ct, osl, rfl, lk, hcd, hD, hK⟩ := F.ex; rcases hD with ⟨_, rfl⟩ | ⟨e, _⟩
  · match ws, hl with
    | [_], _ => exact ⟨.of_eq (by rfl), .of_eq (by rfl)⟩
  · exact absurd rfl e
theorem err_InvalidRelation (T : Top K mg) : Err P w K mg base "InvalidRelation" ["index"] := by
  obtain ⟨fd, F⟩ := T.def_ (dI "InvalidRelation" 12) (List.mem_append_right _ (List.mem_map.mpr ⟨("InvalidRelation", 12, ["index"]), List.mem_of_getElem? (i := 10) rfl, rfl⟩))
  have S : FnScope ["self", "index"] ["self", "index"] (defScope (inClass (top 12) 0)) := ⟨rfl, rfl, rfl, by decide +kernel, rfl, by decide +kernel, by decide +kernel⟩
  have O := T.e1 "InvalidRelation" (by decide +kernel)
  have N := T.e3 "InvalidRelation" (by decide +kernel)
  refine ⟨T.cls _ (by decide +kernel), O.1, _, fd, N.1, N.2, ini1 F S O.1 (T.e2 ("InvalidRelation", 12, ["index"]) (by decide +kernel) "index" (by decide +kernel)) (by decide +kernel) (by decide +kernel), FunD.bindsN F fun _ _ _ _ _ _ us hl => match us, hl with | [_, _], _ => rfl, fun s u ws hl => ?_⟩
  obtain ⟨oc, od, dV, kV, doc, pm, an, cdv, ct, osl, rfl, lk, hcd, hD, hK⟩ := F.ex; rcases hD with ⟨_, rfl⟩ | ⟨e, _⟩
  · match ws, hl with
    | [_], _ => exact ⟨.of_eq (by rfl), .of_eq (by rfl)⟩
  · exact absurd rfl e
theorem err_NotRelated (T : Top K mg) : Err P w K mg base "NotRelated" ["index"] := by
  obtain ⟨fd, F⟩ := T.def_ (dI "NotRelated" 13) (List.mem_append_right _ (List.mem_map.mpr ⟨("NotRelated", 13, ["index"]), List.mem_of_getElem? (i := 11) rfl, rfl⟩))
  have S : FnScope ["self", "index"] ["self", "index"] (defScope (inClass (top 13) 0)) := ⟨rfl, rfl, rfl, by decide +kernel, rfl, by decide +kernel, by decide +kernel⟩
  have O := T.e1 "NotRelated" (by decide +kernel)
  have N := T.e3 "NotRelated" (by decide +kernel)
  refine ⟨T.cls _ (by decide +kernel), O.1, _, fd, N.1, N.2, ini1 F S O.1 (T.e2 ("NotRelated", 13, ["index"]) (by decide +kernel) "index" (by decide +kernel)) (by decide +kernel) (by decide +kernel), FunD.bindsN F fun _ _ _ _ _ _ us hl => match us, hl with | [_, _], _ => rfl, fun s u ws hl => ?_⟩
  obtain ⟨oc, od, dV, kV, doc, pm, an, cdv, ct, osl, rfl, lk, hcd, hD, hK⟩ := F.ex; rcases hD with ⟨_, rfl⟩ | ⟨e, _⟩
  · match ws, hl with
    | [_], _ => exact ⟨.of_eq (by rfl), .of_eq (by rfl)⟩
  · exact absurd rfl e
theorem err_InvalidShape (T : Top K mg) : Err P w K mg base "InvalidShape" ["index"] := by
  obtain ⟨fd, F⟩ := T.def_ (dI "InvalidShape" 14) (List.mem_append_right _ (List.mem_map.mpr ⟨("InvalidShape", 14, ["index"]), List.mem_of_getElem? (i := 12) rfl, rfl⟩))
  have S : FnScope ["self", "index"] ["self", "index"] (defScope (inClass (top 14) 0)) := ⟨rfl, rfl, rfl, by decide +kernel, rfl, by decide +kernel, by decide +kernel⟩
  have O := T.e1 "InvalidShape" (by decide +kernel)
  have N := T.e3 "InvalidShape" (by decide +kernel)
  refine ⟨T.cls _ (by decide +kernel), O.1, _, fd, N.1, N.2, ini1 F S O.1 (T.e2 ("InvalidShape", 14, ["index"]) (by decide +kernel) "index" (by decide +kernel)) (by decide +kernel) (by decide +kernel), FunD.bindsN F fun _ _ _ _ _ _ us hl => match us, hl with | [_, _], _ => rfl, fun s u ws hl => ?_⟩
  obtain ⟨oc, od, dV, kV, doc, pm, an, cdv, ct, osl, rfl, lk, hcd, hD, hK⟩ := F.ex; rcases hD with ⟨_, rfl⟩ | ⟨e, _⟩
  · match ws, hl with
    | [_], _ => exact ⟨.of_eq (by rfl), .of_eq (by rfl)⟩
  · exact absurd rfl e
theorem err_InvalidThings (T : Top K mg) : Err P w K mg base "InvalidThings" ["index"] := by
  obtain ⟨fd, F⟩ := T.def_ (dI "InvalidThings" 15) (List.mem_append_right _ (List.mem_map.mpr ⟨("InvalidThings", 15, ["index"]), List.mem_of_getElem? (i := 13) rfl, rfl⟩))
  have S : FnScope ["self", "index"] ["self", "index"] (defScope (inClass (top 15) 0)) := ⟨rfl, rfl, rfl, by decide +kernel, rfl, by decide +kernel, by decide +kernel⟩
  have O := T.e1 "InvalidThings" (by decide +kernel)
  have N := T.e3 "InvalidThings" (by decide +kernel)
  refine ⟨T.cls _ (by decide +kernel), O.1, _, fd, N.1, N.2, ini1 F S O.1 (T.e2 ("InvalidThings", 15, ["index"]) (by decide +kernel) "index" (by decide +kernel)) (by decide +kernel) (by decide +kernel), FunD.bindsN F fun _ _ _ _ _ _ us hl => match us, hl with | [_, _], _ => rfl, fun s u ws hl => ?_⟩
  obtain ⟨oc, od, dV, kV, doc, pm, an, cdv, ct, osl, rfl, lk, hcd, hD, hK⟩ := F.ex; rcases hD with ⟨_, rfl⟩ | ⟨e, _⟩
  · match ws, hl with
    | [_], _ => exact ⟨.of_eq (by rfl), .of_eq (by rfl)⟩
  · exact absurd rfl e
theorem err_InvalidAnswers (T : Top K mg) : Err P w K mg base "InvalidAnswers" ["index"] := by
  obtain ⟨fd, F⟩ := T.def_ (dI "InvalidAnswers" 16) (List.mem_append_right _ (List.mem_map.mpr ⟨("InvalidAnswers", 16, ["index"]), List.mem_of_getElem? (i := 14) rfl, rfl⟩))
  have S : FnScope ["self", "index"] ["self", "index"] (defScope (inClass (top 16) 0)) := ⟨rfl, rfl, rfl, by decide +kernel, rfl, by decide +kernel, by decide +kernel⟩
  have O := T.e1 "InvalidAnswers" (by decide +kernel)
  have N := T.e3 "InvalidAnswers" (by decide +kernel)
  refine ⟨T.cls _ (by decide +kernel), O.1, _, fd, N.1, N.2, ini1 F S O.1 (T.e2 ("InvalidAnswers", 16, ["index"]) (by decide +kernel) "index" (by decide +kernel)) (by decide +kernel) (by decide +kernel), FunD.bindsN F fun _ _ _ _ _ _ us hl => match us, hl with | [_, _], _ => rfl, fun s u ws hl => ?_⟩
  obtain ⟨oc, od, dV, kV, doc, pm, an, cdv, ct, osl, rfl, lk, hcd, hD, hK⟩ := F.ex; rcases hD with ⟨_, rfl⟩ | ⟨e, _⟩
  · match ws, hl with
    | [_], _ => exact ⟨.of_eq (by rfl), .of_eq (by rfl)⟩
  · exact absurd rfl e
theorem err_InvalidNumbers (T : Top K mg) : Err P w K mg base "InvalidNumbers" ["index"] := by
  obtain ⟨fd, F⟩ := T.def_ (dI "InvalidNumbers" 17) (List.mem_append_right _ (List.mem_map.mpr ⟨("InvalidNumbers", 17, ["index"]), List.mem_of_getElem? (i := 15) rfl, rfl⟩))
  have S : FnScope ["self", "index"] ["self", "index"] (defScope (inClass (top 17) 0)) := ⟨rfl, rfl, rfl, by decide +kernel, rfl, by decide +kernel, by decide +kernel⟩
  have O := T.e1 "InvalidNumbers" (by decide +kernel)
  have N := T.e3 "InvalidNumbers" (by decide +kernel)
  refine ⟨T.cls _ (by decide +kernel), O.1, _, fd, N.1, N.2, ini1 F S O.1 (T.e2 ("InvalidNumbers", 17, ["index"]) (by decide +kernel) "index" (by decide +kernel)) (by decide +kernel) (by decide +kernel), FunD.bindsN F fun _ _ _ _ _ _ us hl => match us, hl with | [_, _], _ => rfl, fun s u ws hl => ?_⟩
  obtain ⟨oc, od, dV, kV, doc, pm, an, cdv, ct, osl, rfl, lk, hcd, hD, hK⟩ := F.ex; rcases hD with ⟨_, rfl⟩ | ⟨e, _⟩
  · match ws, hl with
    | [_], _ => exact ⟨.of_eq (by rfl), .of_eq (by rfl)⟩
  · exact absurd rfl e
theorem err_InvalidRuns (T : Top K mg) : Err P w K mg base "InvalidRuns" ["index"] := by
  obtain ⟨fd, F⟩ := T.def_ (dI "InvalidRuns" 18) (List.mem_append_right _ (List.mem_map.mpr ⟨("InvalidRuns", 18, ["index"]), List.mem_of_getElem? (i := 16) rfl, rfl⟩))
  have S : FnScope ["self", "index"] ["self", "index"] (defScope (inClass (top 18) 0)) := ⟨rfl, rfl, rfl, by decide +kernel, rfl, by decide +kernel, by decide +kernel⟩
  have O := T.e1 "InvalidRuns" (by decide +kernel)
  have N := T.e3 "InvalidRuns" (by decide +kernel)
  refine ⟨T.cls _ (by decide +kernel), O.1, _, fd, N.1, N.2, ini1 F S O.1 (T.e2 ("InvalidRuns", 18, ["index"]) (by decide +kernel) "index" (by decide +kernel)) (by decide +kernel) (by decide +kernel), FunD.bindsN F fun _ _ _ _ _ _ us hl => match us, hl with | [_, _], _ => rfl, fun s u ws hl => ?_⟩
  obtain ⟨oc, od, dV, kV, doc, pm, an, cdv, ct, osl, rfl, lk, hcd, hD, hK⟩ := F.ex; rcases hD with ⟨_, rfl⟩ | ⟨e, _⟩
  · match ws, hl with
    | [_], _ => exact ⟨.of_eq (by rfl), .of_eq (by rfl)⟩
  · exact absurd rfl e
theorem err_InvalidTerm (T : Top K mg) : Err P w K mg base "InvalidTerm" ["place"] := by
  obtain ⟨fd, F⟩ := T.def_ (dI "InvalidTerm" 19) (List.mem_append_right _ (List.mem_map.mpr ⟨("InvalidTerm", 19, ["place"]), List.mem_of_getElem? (i := 17) rfl, rfl⟩))
  have S : FnScope ["self", "place"] ["self", "place"] (defScope (inClass (top 19) 0)) := ⟨rfl, rfl, rfl, by decide +kernel, rfl, by decide +kernel, by decide +kernel⟩
  have O := T.e1 "InvalidTerm" (by decide +kernel)
  have N := T.e3 "InvalidTerm" (by decide +kernel)
  refine ⟨T.cls _ (by decide +kernel), O.1, _, fd, N.1, N.2, ini1 F S O.1 (T.e2 ("InvalidTerm", 19, ["place"]) (by decide +kernel) "place" (by decide +kernel)) (by decide +kernel) (by decide +kernel), FunD.bindsN F fun _ _ _ _ _ _ us hl => match us, hl with | [_, _], _ => rfl, fun s u ws hl => ?_⟩
  obtain ⟨oc, od, dV, kV, doc, pm, an, cdv, ct, osl, rfl, lk, hcd, hD, hK⟩ := F.ex; rcases hD with ⟨_, rfl⟩ | ⟨e, _⟩
  · match ws, hl with
    | [_], _ => exact ⟨.of_eq (by rfl), .of_eq (by rfl)⟩
  · exact absurd rfl e
theorem err_WrongTerm (T : Top K mg) : Err P w K mg base "WrongTerm" ["place"] := by
  obtain ⟨fd, F⟩ := T.def_ (dI "WrongTerm" 20) (List.mem_append_right _ (List.mem_map.mpr ⟨("WrongTerm", 20, ["place"]), List.mem_of_getElem? (i := 18) rfl, rfl⟩))
  have S : FnScope ["self", "place"] ["self", "place"] (defScope (inClass (top 20) 0)) := ⟨rfl, rfl, rfl, by decide +kernel, rfl, by decide +kernel, by decide +kernel⟩
  have O := T.e1 "WrongTerm" (by decide +kernel)
  have N := T.e3 "WrongTerm" (by decide +kernel)
  refine ⟨T.cls _ (by decide +kernel), O.1, _, fd, N.1, N.2, ini1 F S O.1 (T.e2 ("WrongTerm", 20, ["place"]) (by decide +kernel) "place" (by decide +kernel)) (by decide +kernel) (by decide +kernel), FunD.bindsN F fun _ _ _ _ _ _ us hl => match us, hl with | [_, _], _ => rfl, fun s u ws hl => ?_⟩
  obtain ⟨oc, od, dV, kV, doc, pm, an, cdv, ct, osl, rfl, lk, hcd, hD, hK⟩ := F.ex; rcases hD with ⟨_, rfl⟩ | ⟨e, _⟩
  · match ws, hl with
    | [_], _ => exact ⟨.of_eq (by rfl), .of_eq (by rfl)⟩
  · exact absurd rfl e
theorem err_InvalidText (T : Top K mg) : Err P w K mg base "InvalidText" ["line", "column"] := by
  obtain ⟨fd, F⟩ := T.def_ (dI "InvalidText" 21) (List.mem_append_right _ (List.mem_map.mpr ⟨("InvalidText", 21, ["line", "column"]), List.mem_of_getElem? (i := 19) rfl, rfl⟩))
  have S : FnScope ["self", "line", "column"] ["self", "line", "column"] (defScope (inClass (top 21) 0)) := ⟨rfl, rfl, rfl, by decide +kernel, rfl, by decide +kernel, by decide +kernel⟩
  have O := T.e1 "InvalidText" (by decide +kernel)
  have N := T.e3 "InvalidText" (by decide +kernel)
  refine ⟨T.cls _ (by decide +kernel), O.1, _, fd, N.1, N.2, ini2 F S O.1 (T.e2 ("InvalidText", 21, ["line", "column"]) (by decide +kernel) "line" (by decide +kernel)) (T.e2 ("InvalidText", 21, ["line", "column"]) (by decide +kernel) "column" (by decide +kernel)) (by decide +kernel) (by decide +kernel) (by decide +kernel) (by decide +kernel), FunD.bindsN F fun _ _ _ _ _ _ us hl => match us, hl with | [_, _, _], _ => rfl, fun s u ws hl => ?_⟩
  obtain ⟨oc, od, dV, kV, doc, pm, an, cdv, ct, osl, rfl, lk, hcd, hD, hK⟩ := F.ex; rcases hD with ⟨_, rfl⟩ | ⟨e, _⟩
  · match ws, hl with
    | [_, _], _ => exact ⟨.of_eq (by rfl), .of_eq (by rfl)⟩
  · exact absurd rfl e
theorem err_NotData (T : Top K mg) : Err P w K mg base "NotData" ["kind"] := by
  obtain ⟨fd, F⟩ := T.def_ (dI "NotData" 22) (List.mem_append_right _ (List.mem_map.mpr ⟨("NotData", 22, ["kind"]), List.mem_of_getElem? (i := 20) rfl, rfl⟩))
  have S : FnScope ["self", "kind"] ["self", "kind"] (defScope (inClass (top 22) 0)) := ⟨rfl, rfl, rfl, by decide +kernel, rfl, by decide +kernel, by decide +kernel⟩
  have O := T.e1 "NotData" (by decide +kernel)
  have N := T.e3 "NotData" (by decide +kernel)
  refine ⟨T.cls _ (by decide +kernel), O.1, _, fd, N.1, N.2, ini1 F S O.1 (T.e2 ("NotData", 22, ["kind"]) (by decide +kernel) "kind" (by decide +kernel)) (by decide +kernel) (by decide +kernel), FunD.bindsN F fun _ _ _ _ _ _ us hl => match us, hl with | [_, _], _ => rfl, fun s u ws hl => ?_⟩
  obtain ⟨oc, od, dV, kV, doc, pm, an, cdv, ct, osl, rfl, lk, hcd, hD, hK⟩ := F.ex; rcases hD with ⟨_, rfl⟩ | ⟨e, _⟩
  · match ws, hl with
    | [_], _ => exact ⟨.of_eq (by rfl), .of_eq (by rfl)⟩
  · exact absurd rfl e
theorem err_NotFirst (T : Top K mg) : Err P w K mg base "NotFirst" ["kind"] := by
  obtain ⟨fd, F⟩ := T.def_ (dI "NotFirst" 23) (List.mem_append_right _ (List.mem_map.mpr ⟨("NotFirst", 23, ["kind"]), List.mem_of_getElem? (i := 21) rfl, rfl⟩))
  have S : FnScope ["self", "kind"] ["self", "kind"] (defScope (inClass (top 23) 0)) := ⟨rfl, rfl, rfl, by decide +kernel, rfl, by decide +kernel, by decide +kernel⟩
  have O := T.e1 "NotFirst" (by decide +kernel)
  have N := T.e3 "NotFirst" (by decide +kernel)
  refine ⟨T.cls _ (by decide +kernel), O.1, _, fd, N.1, N.2, ini1 F S O.1 (T.e2 ("NotFirst", 23, ["kind"]) (by decide +kernel) "kind" (by decide +kernel)) (by decide +kernel) (by decide +kernel), FunD.bindsN F fun _ _ _ _ _ _ us hl => match us, hl with | [_, _], _ => rfl, fun s u ws hl => ?_⟩
  obtain ⟨oc, od, dV, kV, doc, pm, an, cdv, ct, osl, rfl, lk, hcd, hD, hK⟩ := F.ex; rcases hD with ⟨_, rfl⟩ | ⟨e, _⟩
  · match ws, hl with
    | [_], _ => exact ⟨.of_eq (by rfl), .of_eq (by rfl)⟩
  · exact absurd rfl e
theorem err_NotTested (T : Top K mg) : Err P w K mg base "NotTested" ["kind"] := by
  obtain ⟨fd, F⟩ := T.def_ (dI "NotTested" 24) (List.mem_append_right _ (List.mem_map.mpr ⟨("NotTested", 24, ["kind"]), List.mem_of_getElem? (i := 22) rfl, rfl⟩))
  have S : FnScope ["self", "kind"] ["self", "kind"] (defScope (inClass (top 24) 0)) := ⟨rfl, rfl, rfl, by decide +kernel, rfl, by decide +kernel, by decide +kernel⟩
  have O := T.e1 "NotTested" (by decide +kernel)
  have N := T.e3 "NotTested" (by decide +kernel)
  refine ⟨T.cls _ (by decide +kernel), O.1, _, fd, N.1, N.2, ini1 F S O.1 (T.e2 ("NotTested", 24, ["kind"]) (by decide +kernel) "kind" (by decide +kernel)) (by decide +kernel) (by decide +kernel), FunD.bindsN F fun _ _ _ _ _ _ us hl => match us, hl with | [_, _], _ => rfl, fun s u ws hl => ?_⟩
  obtain ⟨oc, od, dV, kV, doc, pm, an, cdv, ct, osl, rfl, lk, hcd, hD, hK⟩ := F.ex; rcases hD with ⟨_, rfl⟩ | ⟨e, _⟩
  · match ws, hl with
    | [_], _ => exact ⟨.of_eq (by rfl), .of_eq (by rfl)⟩
  · exact absurd rfl e
theorem err_NotPutting (T : Top K mg) : Err P w K mg base "NotPutting" ["kind"] := by
  obtain ⟨fd, F⟩ := T.def_ (dI "NotPutting" 25) (List.mem_append_right _ (List.mem_map.mpr ⟨("NotPutting", 25, ["kind"]), List.mem_of_getElem? (i := 23) rfl, rfl⟩))
  have S : FnScope ["self", "kind"] ["self", "kind"] (defScope (inClass (top 25) 0)) := ⟨rfl, rfl, rfl, by decide +kernel, rfl, by decide +kernel, by decide +kernel⟩
  have O := T.e1 "NotPutting" (by decide +kernel)
  have N := T.e3 "NotPutting" (by decide +kernel)
  refine ⟨T.cls _ (by decide +kernel), O.1, _, fd, N.1, N.2, ini1 F S O.1 (T.e2 ("NotPutting", 25, ["kind"]) (by decide +kernel) "kind" (by decide +kernel)) (by decide +kernel) (by decide +kernel), FunD.bindsN F fun _ _ _ _ _ _ us hl => match us, hl with | [_, _], _ => rfl, fun s u ws hl => ?_⟩
  obtain ⟨oc, od, dV, kV, doc, pm, an, cdv, ct, osl, rfl, lk, hcd, hD, hK⟩ := F.ex; rcases hD with ⟨_, rfl⟩ | ⟨e, _⟩
  · match ws, hl with
    | [_], _ => exact ⟨.of_eq (by rfl), .of_eq (by rfl)⟩
  · exact absurd rfl e
theorem err_Unfilled (T : Top K mg) : Err P w K mg base "Unfilled" ["var"] := by
  obtain ⟨fd, F⟩ := T.def_ (dI "Unfilled" 26) (List.mem_append_right _ (List.mem_map.mpr ⟨("Unfilled", 26, ["var"]), List.mem_of_getElem? (i := 24) rfl, rfl⟩))
  have S : FnScope ["self", "var"] ["self", "var"] (defScope (inClass (top 26) 0)) := ⟨rfl, rfl, rfl, by decide +kernel, rfl, by decide +kernel, by decide +kernel⟩
  have O := T.e1 "Unfilled" (by decide +kernel)
  have N := T.e3 "Unfilled" (by decide +kernel)
  refine ⟨T.cls _ (by decide +kernel), O.1, _, fd, N.1, N.2, ini1 F S O.1 (T.e2 ("Unfilled", 26, ["var"]) (by decide +kernel) "var" (by decide +kernel)) (by decide +kernel) (by decide +kernel), FunD.bindsN F fun _ _ _ _ _ _ us hl => match us, hl with | [_, _], _ => rfl, fun s u ws hl => ?_⟩
  obtain ⟨oc, od, dV, kV, doc, pm, an, cdv, ct, osl, rfl, lk, hcd, hD, hK⟩ := F.ex; rcases hD with ⟨_, rfl⟩ | ⟨e, _⟩
  · match ws, hl with
    | [_], _ => exact ⟨.of_eq (by rfl), .of_eq (by rfl)⟩
  · exact absurd rfl e
end
end K1
namespace K1
open PySem PySem.Spec PyProof.Rows L2 KB
/-- what the error with a number keeps -/
def fv (n : Int) (a b : V) : List (Str × V) := if n < 7 then [("given", a)] else if n < 17 then [("index", a)] else if n < 19 then [("place", a)] else if n = 19 then [("column", b), ("line", a)] else if n < 24 then [("kind", a)] else if n = 24 then [("var", a)] else []
def nmZ (n : Int) : Str := names.getD n.toNat ""
/-- the error with a number -/
def spBy (K : PySem.W.Frag) (lo : Int) : Sp := fun vs H Q _ => ∃ (n : Int) (x y : V), vs = [.int n, x, y] ∧ lo ≤ n ∧ n < 26 ∧ ∀ (a : Addr) (H' : Hp), H a = none → Same H H' → Exv H' a (He.ga K (nmZ n)) (fv n x y) → Q (.ref a) H'
theorem eqI {a b : Int} (h : decide (V.int a = V.int b) = true) : a = b := V.int.inj (of_decide_eq_true h)
theorem neI {a b : Int} (h : ¬ decide (V.int a = V.int b) = true) : a ≠ b := fun e => h (decide_eq_true (congrArg V.int e))
section
variable {K : PySem.W.Frag} {mg : Str → Option Value} {base : Heap} {P : Program} {w : World}
abbrev nBy : List Str := ["_law_number", "_law_one", "_law_two"]
theorem scLateP : FnScope nBy nBy (defScope (top 36)) := ⟨rfl, rfl, rfl, by decide +kernel, rfl, by decide +kernel, by decide +kernel⟩
theorem ok_LateP {f : Addr} {fd : FuncData} (F : FnP K "_law_late_by_place" (top 36) f fd) (T : Top K mg) : FnOk P w K mg base CX0 3 f fd nBy (spBy K 17) := by
  refine F.ok scLateP (fun vs H Q E h => ?_) (fun cdv A outer s H vs Q E hr h => ?_)
  · obtain ⟨n, x, y, rfl, _⟩ := h
    rfl
  · obtain ⟨n, x, y, rfl, h0, h1, q⟩ := h
    have sc := scLateP
    have hr2 : Room 2 _ := hr.mono (by decide); refine ⟨_, PSs.nox (pss_cons (ps_if (pt_cmpR op_eq (pv 0) pe_int (nomark _)) (pss_one (ps_ret (pe_new (err_InvalidTerm T) hr2 (by decide) rfl (pa_cons (pv 1) pa_nil)))) pss_nil) (pss_cons (ps_if (pt_cmpR op_eq (pv 0) pe_int (nomark _)) (pss_one (ps_ret (pe_new (err_WrongTerm T) hr2 (by decide) rfl (pa_cons (pv 1) pa_nil)))) pss_nil) (pss_cons (ps_if (pt_cmpR op_eq (pv 0) pe_int (nomark _)) (pss_one (ps_ret (pe_new (err_InvalidText T) hr2 (by decide) rfl (pa_cons (pv 1) (pa_cons (pv 2) pa_nil))))) pss_nil) (pss_cons (ps_if (pt_cmpR op_eq (pv 0) pe_int (nomark _)) (pss_one (ps_ret (pe_new (err_NotData T) hr2 (by decide) rfl (pa_cons (pv 1) pa_nil)))) pss_nil) (pss_cons (ps_if (pt_cmpR op_eq (pv 0) pe_int (nomark _)) (pss_one (ps_ret (pe_new (err_NotFirst T) hr2 (by decide) rfl (pa_cons (pv 1) pa_nil)))) pss_nil) (pss_cons (ps_if (pt_cmpR op_eq (pv 0) pe_int (nomark _)) (pss_one (ps_ret (pe_new (err_NotTested T) hr2 (by decide) rfl (pa_cons (pv 1) pa_nil)))) pss_nil) (pss_cons (ps_if (pt_cmpR op_eq (pv 0) pe_int (nomark _)) (pss_one (ps_ret (pe_new (err_NotPutting T) hr2 (by decide) rfl (pa_cons (pv 1) pa_nil)))) pss_nil) (pss_one (ps_ret (pe_ifExp (pt_cmpR op_eq (pv 0) pe_int (nomark _)) (pe_new (err_Unfilled T) hr2 (by decide) rfl (pa_cons (pv 1) pa_nil)) (pe_new0 T.e6.2.1 (T.cls _ (by decide +kernel)) ((T.e1 "UnlikeKinds" (by decide +kernel)).1.kC) rfl))))))))))), ?_⟩
    refine ⟨_, rfl, rfl, _, rfl, ite2 (fun g => ?_) (fun g17 => ?_)⟩
    · cases eqI g
      exact ⟨_, rfl, rfl, fun a dx H' n1 n2 ne g1 g2 sm => q a H' n1 sm (.inr ⟨dx, g1, g2⟩)⟩
    refine ⟨_, rfl, rfl, _, rfl, ite2 (fun g => ?_) (fun g18 => ?_)⟩
    · cases eqI g
      exact ⟨_, rfl, rfl, fun a dx H' n1 n2 ne g1 g2 sm => q a H' n1 sm (.inr ⟨dx, g1, g2⟩)⟩
    refine ⟨_, rfl, rfl, _, rfl, ite2 (fun g => ?_) (fun g19 => ?_)⟩
    · cases eqI g
      exact ⟨_, rfl, _, rfl, rfl, fun a dx H' n1 n2 ne g1 g2 sm => q a H' n1 sm (.inr ⟨dx, g1, g2⟩)⟩
    refine ⟨_, rfl, rfl, _, rfl, ite2 (fun g => ?_) (fun g20 => ?_)⟩
    · cases eqI g
      exact ⟨_, rfl, rfl, fun a dx H' n1 n2 ne g1 g2 sm => q a H' n1 sm (.inr ⟨dx, g1, g2⟩)⟩
    refine ⟨_, rfl, rfl, _, rfl, ite2 (fun g => ?_) (fun g21 => ?_)⟩
    · cases eqI g
      exact ⟨_, rfl, rfl, fun a dx H' n1 n2 ne g1 g2 sm => q a H' n1 sm (.inr ⟨dx, g1, g2⟩)⟩
    refine ⟨_, rfl, rfl, _, rfl, ite2 (fun g => ?_) (fun g22 => ?_)⟩
    · cases eqI g
      exact ⟨_, rfl, rfl, fun a dx H' n1 n2 ne g1 g2 sm => q a H' n1 sm (.inr ⟨dx, g1, g2⟩)⟩
    refine ⟨_, rfl, rfl, _, rfl, ite2 (fun g => ?_) (fun g23 => ?_)⟩
    · cases eqI g
      exact ⟨_, rfl, rfl, fun a dx H' n1 n2 ne g1 g2 sm => q a H' n1 sm (.inr ⟨dx, g1, g2⟩)⟩
    refine ⟨_, rfl, rfl, _, rfl, ite2 (fun g => ?_) (fun g24 => ?_)⟩
    · cases eqI g
      exact ⟨_, rfl, rfl, fun a dx H' n1 n2 ne g1 g2 sm => q a H' n1 sm (.inr ⟨dx, g1, g2⟩)⟩
    · have e : n = 25 := by
        have := neI g17; have := neI g18; have := neI g19; have := neI g20; have := neI g21; have := neI g22; have := neI g23; have := neI g24
        omega
      subst e
      exact fun a ha => q a _ ha (Same.new ha) (.inl ⟨rfl, upd_same⟩)
theorem scByP : FnScope nBy nBy (defScope (top 35)) := ⟨rfl, rfl, rfl, by decide +kernel, rfl, by decide +kernel, by decide +kernel⟩
theorem ok_ByP {f : Addr} {fd : FuncData} (F : FnP K "_law_by_place" (top 35) f fd) (T : Top K mg) {fL : Addr} {fdL : FuncData} (FL : FnP K "_law_late_by_place" (top 36) fL fdL) (gL : mg "_law_late_by_place" = some (.ref fL)) (bL : Binds K fdL nBy []) (GL : FnOk P w K mg base CX0 3 fL fdL nBy (spBy K 17)) : FnOk P w K mg base CX0 4 f fd nBy (spBy K 0) := by
  refine F.ok scByP (fun vs H Q E h => ?_) (fun cdv A outer s H vs Q E hr h => ?_)
  · obtain ⟨n, x, y, rfl, _⟩ := h
    rfl
  · obtain ⟨n, x, y, rfl, h0, h1, q⟩ := h
    have sc := scByP
    have hr2 : Room 2 _ := hr.mono (by decide); have hrL : Room 3 _ := hr
    refine ⟨_, PSs.nox (pss_cons (ps_if (pt_cmpR op_eq (pv 0) pe_int (nomark _)) (pss_one (ps_ret (pe_new (err_InvalidKind T) hr2 (by decide) rfl (pa_cons (pv 1) pa_nil)))) pss_nil) (pss_cons (ps_if (pt_cmpR op_eq (pv 0) pe_int (nomark _)) (pss_one (ps_ret (pe_new (err_InvalidValue T) hr2 (by decide) rfl (pa_cons (pv 1) pa_nil)))) pss_nil) (pss_cons (ps_if (pt_cmpR op_eq (pv 0) pe_int (nomark _)) (pss_one (ps_ret (pe_new (err_InvalidLine T) hr2 (by decide) rfl (pa_cons (pv 1) pa_nil)))) pss_nil) (pss_cons (ps_if (pt_cmpR op_eq (pv 0) pe_int (nomark _)) (pss_one (ps_ret (pe_new (err_InvalidThing T) hr2 (by decide) rfl (pa_cons (pv 1) pa_nil)))) pss_nil) (pss_cons (ps_if (pt_cmpR op_eq (pv 0) pe_int (nomark _)) (pss_one (ps_ret (pe_new (err_TooMany T) hr2 (by decide) rfl (pa_cons (pv 1) pa_nil)))) pss_nil) (pss_cons (ps_if (pt_cmpR op_eq (pv 0) pe_int (nomark _)) (pss_one (ps_ret (pe_new (err_InvalidTable T) hr2 (by decide) rfl (pa_cons (pv 1) pa_nil)))) pss_nil) (pss_cons (ps_if (pt_cmpR op_eq (pv 0) pe_int (nomark _)) (pss_one (ps_ret (pe_new (err_InvalidNumber T) hr2 (by decide) rfl (pa_cons (pv 1) pa_nil)))) pss_nil) (pss_cons (ps_if (pt_cmpR op_eq (pv 0) pe_int (nomark _)) (pss_one (ps_ret (pe_new (err_InvalidFilling T) hr2 (by decide) rfl (pa_cons (pv 1) pa_nil)))) pss_nil) (pss_cons (ps_if (pt_cmpR op_eq (pv 0) pe_int (nomark _)) (pss_one (ps_ret (pe_new (err_InvalidContext T) hr2 (by decide) rfl (pa_cons (pv 1) pa_nil)))) pss_nil) (pss_cons (ps_if (pt_cmpR op_eq (pv 0) pe_int (nomark _)) (pss_one (ps_ret (pe_new (err_InvalidArguments T) hr2 (by decide) rfl (pa_cons (pv 1) pa_nil)))) pss_nil) (pss_cons (ps_if (pt_cmpR op_eq (pv 0) pe_int (nomark _)) (pss_one (ps_ret (pe_new (err_InvalidRelation T) hr2 (by decide) rfl (pa_cons (pv 1) pa_nil)))) pss_nil) (pss_cons (ps_if (pt_cmpR op_eq (pv 0) pe_int (nomark _)) (pss_one (ps_ret (pe_new (err_NotRelated T) hr2 (by decide) rfl (pa_cons (pv 1) pa_nil)))) pss_nil) (pss_cons (ps_if (pt_cmpR op_eq (pv 0) pe_int (nomark _)) (pss_one (ps_ret (pe_new (err_InvalidShape T) hr2 (by decide) rfl (pa_cons (pv 1) pa_nil)))) pss_nil) (pss_cons (ps_if (pt_cmpR op_eq (pv 0) pe_int (nomark _)) (pss_one (ps_ret (pe_new (err_InvalidThings T) hr2 (by decide) rfl (pa_cons (pv 1) pa_nil)))) pss_nil) (pss_cons (ps_if (pt_cmpR op_eq (pv 0) pe_int (nomark _)) (pss_one (ps_ret (pe_new (err_InvalidAnswers T) hr2 (by decide) rfl (pa_cons (pv 1) pa_nil)))) pss_nil) (pss_cons (ps_if (pt_cmpR op_eq (pv 0) pe_int (nomark _)) (pss_one (ps_ret (pe_new (err_InvalidNumbers T) hr2 (by decide) rfl (pa_cons (pv 1) pa_nil)))) pss_nil) (pss_cons (ps_if (pt_cmpR op_eq (pv 0) pe_int (nomark _)) (pss_one (ps_ret (pe_new (err_InvalidRuns T) hr2 (by decide) rfl (pa_cons (pv 1) pa_nil)))) pss_nil) (pss_one (ps_ret (pe_call GL hrL rfl gL FL.kp bL .nil pass0 (pa_cons (pv 0) (pa_cons (pv 1) (pa_cons (pv 2) pa_nil))))))))))))))))))))))), ?_⟩
    refine ⟨_, rfl, rfl, _, rfl, ite2 (fun g => ?_) (fun g0 => ?_)⟩
    · cases eqI g
      exact ⟨_, rfl, rfl, fun a dx H' n1 n2 ne g1 g2 sm => q a H' n1 sm (.inr ⟨dx, g1, g2⟩)⟩
    refine ⟨_, rfl, rfl, _, rfl, ite2 (fun g => ?_) (fun g1 => ?_)⟩
    · cases eqI g
      exact ⟨_, rfl, rfl, fun a dx H' n1 n2 ne g1 g2 sm => q a H' n1 sm (.inr ⟨dx, g1, g2⟩)⟩
    refine ⟨_, rfl, rfl, _, rfl, ite2 (fun g => ?_) (fun g2 => ?_)⟩
    · cases eqI g
      exact ⟨_, rfl, rfl, fun a dx H' n1 n2 ne g1 g2 sm => q a H' n1 sm (.inr ⟨dx, g1, g2⟩)⟩
    refine ⟨_, rfl, rfl, _, rfl, ite2 (fun g => ?_) (fun g3 => ?_)⟩
    · cases eqI g
      exact ⟨_, rfl, rfl, fun a dx H' n1 n2 ne g1 g2 sm => q a H' n1 sm (.inr ⟨dx, g1, g2⟩)⟩
    refine ⟨_, rfl, rfl, _, rfl, ite2 (fun g => ?_) (fun g4 => ?_)⟩
    · cases eqI g
      exact ⟨_, rfl, rfl, fun a dx H' n1 n2 ne g1 g2 sm => q a H' n1 sm (.inr ⟨dx, g1, g2⟩)⟩
    refine ⟨_, rfl, rfl, _, rfl, ite2 (fun g => ?_) (fun g5 => ?_)⟩
    · cases eqI g
      exact ⟨_, rfl, rfl, fun a dx H' n1 n2 ne g1 g2 sm => q a H' n1 sm (.inr ⟨dx, g1, g2⟩)⟩
    refine ⟨_, rfl, rfl, _, rfl, ite2 (fun g => ?_) (fun g6 => ?_)⟩
    · cases eqI g
      exact ⟨_, rfl, rfl, fun a dx H' n1 n2 ne g1 g2 sm => q a H' n1 sm (.inr ⟨dx, g1, g2⟩)⟩
    refine ⟨_, rfl, rfl, _, rfl, ite2 (fun g => ?_) (fun g7 => ?_)⟩
    · cases eqI g
      exact ⟨_, rfl, rfl, fun a dx H' n1 n2 ne g1 g2 sm => q a H' n1 sm (.inr ⟨dx, g1, g2⟩)⟩
    refine ⟨_, rfl, rfl, _, rfl, ite2 (fun g => ?_) (fun g8 => ?_)⟩
    · cases eqI g
      exact ⟨_, rfl, rfl, fun a dx H' n1 n2 ne g1 g2 sm => q a H' n1 sm (.inr ⟨dx, g1, g2⟩)⟩
    refine ⟨_, rfl, rfl, _, rfl, ite2 (fun g => ?_) (fun g9 => ?_)⟩
    · cases eqI g
      exact ⟨_, rfl, rfl, fun a dx H' n1 n2 ne g1 g2 sm => q a H' n1 sm (.inr ⟨dx, g1, g2⟩)⟩
    refine ⟨_, rfl, rfl, _, rfl, ite2 (fun g => ?_) (fun g10 => ?_)⟩
    · cases eqI g
      exact ⟨_, rfl, rfl, fun a dx H' n1 n2 ne g1 g2 sm => q a H' n1 sm (.inr ⟨dx, g1, g2⟩)⟩
    refine ⟨_, rfl, rfl, _, rfl, ite2 (fun g => ?_) (fun g11 => ?_)⟩
    · cases eqI g
      exact ⟨_, rfl, rfl, fun a dx H' n1 n2 ne g1 g2 sm => q a H' n1 sm (.inr ⟨dx, g1, g2⟩)⟩
    refine ⟨_, rfl, rfl, _, rfl, ite2 (fun g => ?_) (fun g12 => ?_)⟩
    · cases eqI g
      exact ⟨_, rfl, rfl, fun a dx H' n1 n2 ne g1 g2 sm => q a H' n1 sm (.inr ⟨dx, g1, g2⟩)⟩
    refine ⟨_, rfl, rfl, _, rfl, ite2 (fun g => ?_) (fun g13 => ?_)⟩
    · cases eqI g
      exact ⟨_, rfl, rfl, fun a dx H' n1 n2 ne g1 g2 sm => q a H' n1 sm (.inr ⟨dx, g1, g2⟩)⟩
    refine ⟨_, rfl, rfl, _, rfl, ite2 (fun g => ?_) (fun g14 => ?_)⟩
    · cases eqI g
      exact ⟨_, rfl, rfl, fun a dx H' n1 n2 ne g1 g2 sm => q a H' n1 sm (.inr ⟨dx, g1, g2⟩)⟩
    refine ⟨_, rfl, rfl, _, rfl, ite2 (fun g => ?_) (fun g15 => ?_)⟩
    · cases eqI g
      exact ⟨_, rfl, rfl, fun a dx H' n1 n2 ne g1 g2 sm => q a H' n1 sm (.inr ⟨dx, g1, g2⟩)⟩
    refine ⟨_, rfl, rfl, _, rfl, ite2 (fun g => ?_) (fun g16 => ?_)⟩
    · cases eqI g
      exact ⟨_, rfl, rfl, fun a dx H' n1 n2 ne g1 g2 sm => q a H' n1 sm (.inr ⟨dx, g1, g2⟩)⟩
    refine ⟨_, rfl, _, rfl, _, rfl, n, x, y, rfl, ?_, h1, q⟩
    have := neI g0; have := neI g1; have := neI g2; have := neI g3; have := neI g4; have := neI g5; have := neI g6; have := neI g7; have := neI g8; have := neI g9; have := neI g10; have := neI g11; have := neI g12; have := neI g13; have := neI g14; have := neI g15; have := neI g16
    omega
theorem scLateN : FnScope nBy nBy (defScope (top 38)) := ⟨rfl, rfl, rfl, by decide +kernel, rfl, by decide +kernel, by decide +kernel⟩
theorem ok_LateN {f : Addr} {fd : FuncData} (F : FnP K "_law_late_by_name" (top 38) f fd) (T : Top K mg) : FnOk P w K mg base CX0 3 f fd nBy (spBy K 17) := by
  refine F.ok scLateN (fun vs H Q E h => ?_) (fun cdv A outer s H vs Q E hr h => ?_)
  · obtain ⟨n, x, y, rfl, _⟩ := h
    rfl
  · obtain ⟨n, x, y, rfl, h0, h1, q⟩ := h
    have sc := scLateN
    have hr2 : Room 2 _ := hr.mono (by decide); refine ⟨_, PSs.nox (pss_cons (ps_if (pt_cmpR op_eq (pv 0) pe_int (nomark _)) (pss_one (ps_ret (pe_newK (err_InvalidTerm T) hr2 rfl (pk_cons (pv 1) pk_nil)))) pss_nil) (pss_cons (ps_if (pt_cmpR op_eq (pv 0) pe_int (nomark _)) (pss_one (ps_ret (pe_newK (err_WrongTerm T) hr2 rfl (pk_cons (pv 1) pk_nil)))) pss_nil) (pss_cons (ps_if (pt_cmpR op_eq (pv 0) pe_int (nomark _)) (pss_one (ps_ret (pe_newKR (err_InvalidText T) hr2 rfl (pk_cons (pv 2) (pk_cons (pv 1) pk_nil))))) pss_nil) (pss_cons (ps_if (pt_cmpR op_eq (pv 0) pe_int (nomark _)) (pss_one (ps_ret (pe_newK (err_NotData T) hr2 rfl (pk_cons (pv 1) pk_nil)))) pss_nil) (pss_cons (ps_if (pt_cmpR op_eq (pv 0) pe_int (nomark _)) (pss_one (ps_ret (pe_newK (err_NotFirst T) hr2 rfl (pk_cons (pv 1) pk_nil)))) pss_nil) (pss_cons (ps_if (pt_cmpR op_eq (pv 0) pe_int (nomark _)) (pss_one (ps_ret (pe_newK (err_NotTested T) hr2 rfl (pk_cons (pv 1) pk_nil)))) pss_nil) (pss_cons (ps_if (pt_cmpR op_eq (pv 0) pe_int (nomark _)) (pss_one (ps_ret (pe_newK (err_NotPutting T) hr2 rfl (pk_cons (pv 1) pk_nil)))) pss_nil) (pss_one (ps_ret (pe_ifExp (pt_cmpR op_eq (pv 0) pe_int (nomark _)) (pe_newK (err_Unfilled T) hr2 rfl (pk_cons (pv 1) pk_nil)) (pe_new0 T.e6.2.1 (T.cls _ (by decide +kernel)) ((T.e1 "UnlikeKinds" (by decide +kernel)).1.kC) rfl))))))))))), ?_⟩
    refine ⟨_, rfl, rfl, _, rfl, ite2 (fun g => ?_) (fun g17 => ?_)⟩
    · cases eqI g
      exact ⟨_, rfl, rfl, fun a dx H' n1 n2 ne g1 g2 sm => q a H' n1 sm (.inr ⟨dx, g1, g2⟩)⟩
    refine ⟨_, rfl, rfl, _, rfl, ite2 (fun g => ?_) (fun g18 => ?_)⟩
    · cases eqI g
      exact ⟨_, rfl, rfl, fun a dx H' n1 n2 ne g1 g2 sm => q a H' n1 sm (.inr ⟨dx, g1, g2⟩)⟩
    refine ⟨_, rfl, rfl, _, rfl, ite2 (fun g => ?_) (fun g19 => ?_)⟩
    · cases eqI g
      exact ⟨_, rfl, _, rfl, rfl, fun a dx H' n1 n2 ne g1 g2 sm => q a H' n1 sm (.inr ⟨dx, g1, g2⟩)⟩
    refine ⟨_, rfl, rfl, _, rfl, ite2 (fun g => ?_) (fun g20 => ?_)⟩
    · cases eqI g
      exact ⟨_, rfl, rfl, fun a dx H' n1 n2 ne g1 g2 sm => q a H' n1 sm (.inr ⟨dx, g1, g2⟩)⟩
    refine ⟨_, rfl, rfl, _, rfl, ite2 (fun g => ?_) (fun g21 => ?_)⟩
    · cases eqI g
      exact ⟨_, rfl, rfl, fun a dx H' n1 n2 ne g1 g2 sm => q a H' n1 sm (.inr ⟨dx, g1, g2⟩)⟩
    refine ⟨_, rfl, rfl, _, rfl, ite2 (fun g => ?_) (fun g22 => ?_)⟩
    · cases eqI g
      exact ⟨_, rfl, rfl, fun a dx H' n1 n2 ne g1 g2 sm => q a H' n1 sm (.inr ⟨dx, g1, g2⟩)⟩
    refine ⟨_, rfl, rfl, _, rfl, ite2 (fun g => ?_) (fun g23 => ?_)⟩
    · cases eqI g
      exact ⟨_, rfl, rfl, fun a dx H' n1 n2 ne g1 g2 sm => q a H' n1 sm (.inr ⟨dx, g1, g2⟩)⟩
    refine ⟨_, rfl, rfl, _, rfl, ite2 (fun g => ?_) (fun g24 => ?_)⟩
    · cases eqI g
      exact ⟨_, rfl, rfl, fun a dx H' n1 n2 ne g1 g2 sm => q a H' n1 sm (.inr ⟨dx, g1, g2⟩)⟩
    · have e : n = 25 := by
        have := neI g17; have := neI g18; have := neI g19; have := neI g20; have := neI g21; have := neI g22; have := neI g23; have := neI g24
        omega
      subst e
      exact fun a ha => q a _ ha (Same.new ha) (.inl ⟨rfl, upd_same⟩)
theorem scByN : FnScope nBy nBy (defScope (top 37)) := ⟨rfl, rfl, rfl, by decide +kernel, rfl, by decide +kernel, by decide +kernel⟩
theorem ok_ByN {f : Addr} {fd : FuncData} (F : FnP K "_law_by_name" (top 37) f fd) (T : Top K mg) {fL : Addr} {fdL : FuncData} (FL : FnP K "_law_late_by_name" (top 38) fL fdL) (gL : mg "_law_late_by_name" = some (.ref fL)) (bL : Binds K fdL nBy []) (GL : FnOk P w K mg base CX0 3 fL fdL nBy (spBy K 17)) : FnOk P w K mg base CX0 4 f fd nBy (spBy K 0) := by
  refine F.ok scByN (fun vs H Q E h => ?_) (fun cdv A outer s H vs Q E hr h => ?_)
  · obtain ⟨n, x, y, rfl, _⟩ := h
    rfl
  · obtain ⟨n, x, y, rfl, h0, h1, q⟩ := h
    have sc := scByN
    have hr2 : Room 2 _ := hr.mono (by decide); have hrL : Room 3 _ := hr
    refine ⟨_, PSs.nox (pss_cons (ps_if (pt_cmpR op_eq (pv 0) pe_int (nomark _)) (pss_one (ps_ret (pe_newK (err_InvalidKind T) hr2 rfl (pk_cons (pv 1) pk_nil)))) pss_nil) (pss_cons (ps_if (pt_cmpR op_eq (pv 0) pe_int (nomark _)) (pss_one (ps_ret (pe_newK (err_InvalidValue T) hr2 rfl (pk_cons (pv 1) pk_nil)))) pss_nil) (pss_cons (ps_if (pt_cmpR op_eq (pv 0) pe_int (nomark _)) (pss_one (ps_ret (pe_newK (err_InvalidLine T) hr2 rfl (pk_cons (pv 1) pk_nil)))) pss_nil) (pss_cons (ps_if (pt_cmpR op_eq (pv 0) pe_int (nomark _)) (pss_one (ps_ret (pe_newK (err_InvalidThing T) hr2 rfl (pk_cons (pv 1) pk_nil)))) pss_nil) (pss_cons (ps_if (pt_cmpR op_eq (pv 0) pe_int (nomark _)) (pss_one (ps_ret (pe_newK (err_TooMany T) hr2 rfl (pk_cons (pv 1) pk_nil)))) pss_nil) (pss_cons (ps_if (pt_cmpR op_eq (pv 0) pe_int (nomark _)) (pss_one (ps_ret (pe_newK (err_InvalidTable T) hr2 rfl (pk_cons (pv 1) pk_nil)))) pss_nil) (pss_cons (ps_if (pt_cmpR op_eq (pv 0) pe_int (nomark _)) (pss_one (ps_ret (pe_newK (err_InvalidNumber T) hr2 rfl (pk_cons (pv 1) pk_nil)))) pss_nil) (pss_cons (ps_if (pt_cmpR op_eq (pv 0) pe_int (nomark _)) (pss_one (ps_ret (pe_newK (err_InvalidFilling T) hr2 rfl (pk_cons (pv 1) pk_nil)))) pss_nil) (pss_cons (ps_if (pt_cmpR op_eq (pv 0) pe_int (nomark _)) (pss_one (ps_ret (pe_newK (err_InvalidContext T) hr2 rfl (pk_cons (pv 1) pk_nil)))) pss_nil) (pss_cons (ps_if (pt_cmpR op_eq (pv 0) pe_int (nomark _)) (pss_one (ps_ret (pe_newK (err_InvalidArguments T) hr2 rfl (pk_cons (pv 1) pk_nil)))) pss_nil) (pss_cons (ps_if (pt_cmpR op_eq (pv 0) pe_int (nomark _)) (pss_one (ps_ret (pe_newK (err_InvalidRelation T) hr2 rfl (pk_cons (pv 1) pk_nil)))) pss_nil) (pss_cons (ps_if (pt_cmpR op_eq (pv 0) pe_int (nomark _)) (pss_one (ps_ret (pe_newK (err_NotRelated T) hr2 rfl (pk_cons (pv 1) pk_nil)))) pss_nil) (pss_cons (ps_if (pt_cmpR op_eq (pv 0) pe_int (nomark _)) (pss_one (ps_ret (pe_newK (err_InvalidShape T) hr2 rfl (pk_cons (pv 1) pk_nil)))) pss_nil) (pss_cons (ps_if (pt_cmpR op_eq (pv 0) pe_int (nomark _)) (pss_one (ps_ret (pe_newK (err_InvalidThings T) hr2 rfl (pk_cons (pv 1) pk_nil)))) pss_nil) (pss_cons (ps_if (pt_cmpR op_eq (pv 0) pe_int (nomark _)) (pss_one (ps_ret (pe_newK (err_InvalidAnswers T) hr2 rfl (pk_cons (pv 1) pk_nil)))) pss_nil) (pss_cons (ps_if (pt_cmpR op_eq (pv 0) pe_int (nomark _)) (pss_one (ps_ret (pe_newK (err_InvalidNumbers T) hr2 rfl (pk_cons (pv 1) pk_nil)))) pss_nil) (pss_cons (ps_if (pt_cmpR op_eq (pv 0) pe_int (nomark _)) (pss_one (ps_ret (pe_newK (err_InvalidRuns T) hr2 rfl (pk_cons (pv 1) pk_nil)))) pss_nil) (pss_one (ps_ret (pe_call GL hrL rfl gL FL.kp bL .nil pass0 (pa_cons (pv 0) (pa_cons (pv 1) (pa_cons (pv 2) pa_nil))))))))))))))))))))))), ?_⟩
    refine ⟨_, rfl, rfl, _, rfl, ite2 (fun g => ?_) (fun g0 => ?_)⟩
    · cases eqI g
      exact ⟨_, rfl, rfl, fun a dx H' n1 n2 ne g1 g2 sm => q a H' n1 sm (.inr ⟨dx, g1, g2⟩)⟩
    refine ⟨_, rfl, rfl, _, rfl, ite2 (fun g => ?_) (fun g1 => ?_)⟩
    · cases eqI g
      exact ⟨_, rfl, rfl, fun a dx H' n1 n2 ne g1 g2 sm => q a H' n1 sm (.inr ⟨dx, g1, g2⟩)⟩
    refine ⟨_, rfl, rfl, _, rfl, ite2 (fun g => ?_) (fun g2 => ?_)⟩
    · cases eqI g
      exact ⟨_, rfl, rfl, fun a dx H' n1 n2 ne g1 g2 sm => q a H' n1 sm (.inr ⟨dx, g1, g2⟩)⟩
    refine ⟨_, rfl, rfl, _, rfl, ite2 (fun g => ?_) (fun g3 => ?_)⟩
    · cases eqI g
      exact ⟨_, rfl, rfl, fun a dx H' n1 n2 ne g1 g2 sm => q a H' n1 sm (.inr ⟨dx, g1, g2⟩)⟩
    refine ⟨_, rfl, rfl, _, rfl, ite2 (fun g => ?_) (fun g4 => ?_)⟩
    · cases eqI g
      exact ⟨_, rfl, rfl, fun a dx H' n1 n2 ne g1 g2 sm => q a H' n1 sm (.inr ⟨dx, g1, g2⟩)⟩
    refine ⟨_, rfl, rfl, _, rfl, ite2 (fun g => ?_) (fun g5 => ?_)⟩
    · cases eqI g
      exact ⟨_, rfl, rfl, fun a dx H' n1 n2 ne g1 g2 sm => q a H' n1 sm (.inr ⟨dx, g1, g2⟩)⟩
    refine ⟨_, rfl, rfl, _, rfl, ite2 (fun g => ?_) (fun g6 => ?_)⟩
    · cases eqI g
      exact ⟨_, rfl, rfl, fun a dx H' n1 n2 ne g1 g2 sm => q a H' n1 sm (.inr ⟨dx, g1, g2⟩)⟩
    refine ⟨_, rfl, rfl, _, rfl, ite2 (fun g => ?_) (fun g7 => ?_)⟩
    · cases eqI g
      exact ⟨_, rfl, rfl, fun a dx H' n1 n2 ne g1 g2 sm => q a H' n1 sm (.inr ⟨dx, g1, g2⟩)⟩
    refine ⟨_, rfl, rfl, _, rfl, ite2 (fun g => ?_) (fun g8 => ?_)⟩
    · cases eqI g
      exact ⟨_, rfl, rfl, fun a dx H' n1 n2 ne g1 g2 sm => q a H' n1 sm (.inr ⟨dx, g1, g2⟩)⟩
    refine ⟨_, rfl, rfl, _, rfl, ite2 (fun g => ?_) (fun g9 => ?_)⟩
    · cases eqI g
      exact ⟨_, rfl, rfl, fun a dx H' n1 n2 ne g1 g2 sm => q a H' n1 sm (.inr ⟨dx, g1, g2⟩)⟩
    refine ⟨_, rfl, rfl, _, rfl, ite2 (fun g => ?_) (fun g10 => ?_)⟩
    · cases eqI g
      exact ⟨_, rfl, rfl, fun a dx H' n1 n2 ne g1 g2 sm => q a H' n1 sm (.inr ⟨dx, g1, g2⟩)⟩
    refine ⟨_, rfl, rfl, _, rfl, ite2 (fun g => ?_) (fun g11 => ?_)⟩
    · cases eqI g
      exact ⟨_, rfl, rfl, fun a dx H' n1 n2 ne g1 g2 sm => q a H' n1 sm (.inr ⟨dx, g1, g2⟩)⟩
    refine ⟨_, rfl, rfl, _, rfl, ite2 (fun g => ?_) (fun g12 => ?_)⟩
    · cases eqI g
      exact ⟨_, rfl, rfl, fun a dx H' n1 n2 ne g1 g2 sm => q a H' n1 sm (.inr ⟨dx, g1, g2⟩)⟩
    refine ⟨_, rfl, rfl, _, rfl, ite2 (fun g => ?_) (fun g13 => ?_)⟩
    · cases eqI g
      exact ⟨_, rfl, rfl, fun a dx H' n1 n2 ne g1 g2 sm => q a H' n1 sm (.inr ⟨dx, g1, g2⟩)⟩
    refine ⟨_, rfl, rfl, _, rfl, ite2 (fun g => ?_) (fun g14 => ?_)⟩
    · cases eqI g
      exact ⟨_, rfl, rfl, fun a dx H' n1 n2 ne g1 g2 sm => q a H' n1 sm (.inr ⟨dx, g1, g2⟩)⟩
    refine ⟨_, rfl, rfl, _, rfl, ite2 (fun g => ?_) (fun g15 => ?_)⟩
    · cases eqI g
      exact ⟨_, rfl, rfl, fun a dx H' n1 n2 ne g1 g2 sm => q a H' n1 sm (.inr ⟨dx, g1, g2⟩)⟩
    refine ⟨_, rfl, rfl, _, rfl, ite2 (fun g => ?_) (fun g16 => ?_)⟩
    · cases eqI g
      exact ⟨_, rfl, rfl, fun a dx H' n1 n2 ne g1 g2 sm => q a H' n1 sm (.inr ⟨dx, g1, g2⟩)⟩
    refine ⟨_, rfl, _, rfl, _, rfl, n, x, y, rfl, ?_, h1, q⟩
    have := neI g0; have := neI g1; have := neI g2; have := neI g3; have := neI g4; have := neI g5; have := neI g6; have := neI g7; have := neI g8; have := neI g9; have := neI g10; have := neI g11; have := neI g12; have := neI g13; have := neI g14; have := neI g15; have := neI g16
    omega
end
end K1
namespace K1
open PySem PySem.Spec PyProof.Rows L2 KB
def fN (k : Nat) : List Str := if k < 7 then ["given"] else if k < 17 then ["index"] else if k < 19 then ["place"] else if k = 19 then ["line", "column"] else if k < 24 then ["kind"] else if k = 24 then ["var"] else []
/-- what an error keeps, as a list -/
def kv (n : Int) (x y : V) : List V := if n < 7 then [x] else if n < 17 then [x] else if n < 19 then [x] else if n = 19 then [x, y] else if n < 24 then [x] else if n = 24 then [x] else []
theorem ifT {c : Bool} {A B : Prop} (hc : c = true) (h : A) : if c = true then A else B := by
  rw [if_pos hc]
  exact h
theorem ifF {c : Bool} {A B : Prop} (hc : c = false) (h : B) : if c = true then A else B := by
  rw [hc, if_neg Bool.false_ne_true]; exact h
def Kd (n : Int) (x y : V) (fs : List (Str × V)) (ns : List Str) (ks : List V) : Prop := fv n x y = fs ∧ fN n.toNat = ns ∧ kv n x y = ks
theorem fvK {n : Int} (x y : V) (h0 : 0 ≤ n) (h1 : n < 26) : (n < 7 ∧ Kd n x y [("given", x)] ["given"] [x]) ∨ ((¬ n < 7 ∧ n < 17) ∧ Kd n x y [("index", x)] ["index"] [x]) ∨ ((¬ n < 17 ∧ n < 19) ∧ Kd n x y [("place", x)] ["place"] [x]) ∨
    (n = 19 ∧ Kd n x y [("column", y), ("line", x)] ["line", "column"] [x, y]) ∨ ((¬ n < 20 ∧ n < 24) ∧ Kd n x y [("kind", x)] ["kind"] [x]) ∨ (n = 24 ∧ Kd n x y [("var", x)] ["var"] [x]) ∨ (n = 25 ∧ Kd n x y [] [] []) := by
  unfold Kd fv fN kv
  by_cases c1 : n < 7
  · exact .inl ⟨c1, if_pos c1, if_pos (by omega), if_pos c1⟩
  rw [if_neg c1, if_neg c1, if_neg (show ¬ n.toNat < 7 by omega)]
  by_cases c2 : n < 17
  · exact .inr (.inl ⟨⟨c1, c2⟩, if_pos c2, if_pos (by omega), if_pos c2⟩)
  rw [if_neg c2, if_neg c2, if_neg (show ¬ n.toNat < 17 by omega)]
  by_cases c3 : n < 19
  · exact .inr (.inr (.inl ⟨⟨c2, c3⟩, if_pos c3, if_pos (by omega), if_pos c3⟩))
  rw [if_neg c3, if_neg c3, if_neg (show ¬ n.toNat < 19 by omega)]
  by_cases c4 : n = 19
  · exact .inr (.inr (.inr (.inl ⟨c4, if_pos c4, if_pos (by omega), if_pos c4⟩)))
  rw [if_neg c4, if_neg c4, if_neg (show ¬ n.toNat = 19 by omega)]
  by_cases c5 : n < 24
  · exact .inr (.inr (.inr (.inr (.inl ⟨⟨by omega, c5⟩, if_pos c5, if_pos (by omega), if_pos c5⟩))))
  rw [if_neg c5, if_neg c5, if_neg (show ¬ n.toNat < 24 by omega)]
  by_cases c6 : n = 24
  · exact .inr (.inr (.inr (.inr (.inr (.inl ⟨c6, if_pos c6, if_pos (by omega), if_pos c6⟩)))))
  rw [if_neg c6, if_neg c6, if_neg (show ¬ n.toNat = 24 by omega)]
  exact .inr (.inr (.inr (.inr (.inr (.inr ⟨by omega, rfl, rfl, rfl⟩)))))
theorem cls_nth : ∀ k : Fin 26, (clsL.getD k.1 ("", 0, [])).1 = names.getD k.1 "" ∧ (clsL.getD k.1 ("", 0, [])).2.2 = fN k.1 ∧ clsL.contains (clsL.getD k.1 ("", 0, [])) = true ∧ names.contains (names.getD k.1 "") = true := by decide +kernel
theorem names_nth : ∀ k l : Fin 26, (names.getD k.1 "" = names.getD l.1 "") → k = l := by decide +kernel
theorem nm_mem {n : Int} (h0 : 0 ≤ n) (h1 : n < 26) : nmZ n ∈ names := List.contains_iff_mem.mp (cls_nth ⟨n.toNat, by omega⟩).2.2.2
section
variable {K : PySem.W.Frag} {mg : Str → Option Value} {base : Heap} {P : Program} {w : World}
theorem Top.no (T : Top K mg) {n : Int} (h0 : 0 ≤ n) (h1 : n < 26) {f : Str} (hf : f ∈ fN n.toNat) : PySem.W.findIn K (.ref (He.ga K (nmZ n))) f = some none := by
  obtain ⟨e1, e2, e3, _⟩ := cls_nth ⟨n.toNat, by omega⟩
  have h := T.e2 _ (List.contains_iff_mem.mp e3) f (by rw [e2]; exact hf)
  rw [e1] at h
  exact h
def spKept (K : PySem.W.Frag) : Sp := fun vs H Q _ => ∃ (n : Int) (a : Addr) (x y : V), vs = [.int n, .ref a] ∧ 0 ≤ n ∧ n < 26 ∧ Exv H a (He.ga K (nmZ n)) (fv n x y) ∧ ∀ p, H p = none → Q (.ref p) (upd H p (.lst (kv n x y)))
abbrev nKept : List Str := ["_law_number", "_law_error"]
theorem scKept : FnScope nKept nKept (defScope (top 39)) := ⟨rfl, rfl, rfl, by decide +kernel, rfl, by decide +kernel, by decide +kernel⟩
theorem ok_kept {f : Addr} {fd : FuncData} (F : FnP K "_law_kept" (top 39) f fd) (T : Top K mg) : FnOk P w K mg base CX0 1 f fd nKept (spKept K) := by
  refine F.ok scKept (fun vs H Q E h => ?_) (fun cdv A outer s H vs Q E hr h => ?_)
  · obtain ⟨n, a, x, y, rfl, _⟩ := h
    rfl
  · obtain ⟨n, a, x, y, rfl, h0, h1, hx, q⟩ := h
    have sc := scKept
    have xf := (T.e1 _ (nm_mem h0 h1)).2.xf
    have no : ∀ f, f ∈ fN n.toNat → PySem.W.findIn K (.ref (He.ga K (nmZ n))) f = some none := fun f hf => T.no h0 h1 hf
    refine ⟨_, PSs.nox (pss_cons (ps_if (pt_cmpR op_lt (pv 0) pe_int (nomark _)) (pss_one (ps_ret (pe_lst (pa_cons (pe_getE (pv 1)) pa_nil)))) pss_nil) (pss_cons (ps_if (pt_cmpR op_lt (pv 0) pe_int (nomark _)) (pss_one (ps_ret (pe_lst (pa_cons (pe_getE (pv 1)) pa_nil)))) pss_nil) (pss_cons (ps_if (pt_cmpR op_lt (pv 0) pe_int (nomark _)) (pss_one (ps_ret (pe_lst (pa_cons (pe_getE (pv 1)) pa_nil)))) pss_nil) (pss_cons (ps_if (pt_cmpR op_eq (pv 0) pe_int (nomark _)) (pss_one (ps_ret (pe_lst (pa_cons (pe_getE (pv 1)) (pa_cons (pe_getE (pv 1)) pa_nil))))) pss_nil) (pss_cons (ps_if (pt_cmpR op_lt (pv 0) pe_int (nomark _)) (pss_one (ps_ret (pe_lst (pa_cons (pe_getE (pv 1)) pa_nil)))) pss_nil) (pss_one (ps_ret (pe_ifExp (pt_cmpR op_eq (pv 0) pe_int (nomark _)) (pe_lst (pa_cons (pe_getE (pv 1)) pa_nil)) (pe_lst pa_nil))))))))), ?_⟩
    have one : (1 : Nat) ≤ sizeLine := by decide
    rcases fvK x y h0 h1 with ⟨c, e1, e2, e3⟩ | ⟨⟨c1, c2⟩, e1, e2, e3⟩ | ⟨⟨c1, c2⟩, e1, e2, e3⟩ | ⟨c, e1, e2, e3⟩ | ⟨⟨c, c2⟩, e1, e2, e3⟩ | ⟨c, e1, e2, e3⟩ | ⟨c, e1, e2, e3⟩
    all_goals rw [e1] at hx
    all_goals rw [e2] at no
    all_goals rw [e3] at q
    · exact ⟨_, rfl, _, _, rfl, rfl, _, rfl, ifT (decide_eq_true c) ⟨_, rfl, a, _, _, x, rfl, hx, xf, no _ (List.mem_singleton.mpr rfl), rfl, one, q⟩⟩
    · refine ⟨_, rfl, _, _, rfl, rfl, _, rfl, ifF (decide_eq_false c1) ?_⟩
      exact ⟨_, rfl, _, _, rfl, rfl, _, rfl, ifT (decide_eq_true c2) ⟨_, rfl, a, _, _, x, rfl, hx, xf, no _ (List.mem_singleton.mpr rfl), rfl, one, q⟩⟩
    · refine ⟨_, rfl, _, _, rfl, rfl, _, rfl, ifF (decide_eq_false (by omega)) ?_⟩
      refine ⟨_, rfl, _, _, rfl, rfl, _, rfl, ifF (decide_eq_false c1) ?_⟩
      exact ⟨_, rfl, _, _, rfl, rfl, _, rfl, ifT (decide_eq_true c2) ⟨_, rfl, a, _, _, x, rfl, hx, xf, no _ (List.mem_singleton.mpr rfl), rfl, one, q⟩⟩
    · refine ⟨_, rfl, _, _, rfl, rfl, _, rfl, ifF (decide_eq_false (by omega)) ?_⟩
      refine ⟨_, rfl, _, _, rfl, rfl, _, rfl, ifF (decide_eq_false (by omega)) ?_⟩
      refine ⟨_, rfl, _, _, rfl, rfl, _, rfl, ifF (decide_eq_false (by omega)) ?_⟩
      subst c
      exact ⟨_, rfl, rfl, _, rfl, ifT (decide_eq_true rfl) ⟨_, rfl, a, _, _, x, rfl, hx, xf, no _ List.mem_cons_self, rfl, _, rfl, a, _, _, y, rfl, hx, xf, no _ (List.mem_cons_of_mem _ List.mem_cons_self), rfl, (by show (2 : Nat) ≤ sizeLine; decide), q⟩⟩
    all_goals
      have c19 : ¬ n = 19 := by omega
      refine ⟨_, rfl, _, _, rfl, rfl, _, rfl, ifF (decide_eq_false (by omega)) ?_⟩
      refine ⟨_, rfl, _, _, rfl, rfl, _, rfl, ifF (decide_eq_false (by omega)) ?_⟩
      refine ⟨_, rfl, _, _, rfl, rfl, _, rfl, ifF (decide_eq_false (by omega)) ?_⟩
      refine ⟨_, rfl, rfl, _, rfl, ifF (decide_eq_false fun z => c19 (V.int.inj z)) ?_⟩
    · exact ⟨_, rfl, _, _, rfl, rfl, _, rfl, ifT (decide_eq_true c2) ⟨_, rfl, a, _, _, x, rfl, hx, xf, no _ (List.mem_singleton.mpr rfl), rfl, one, q⟩⟩
    · refine ⟨_, rfl, _, _, rfl, rfl, _, rfl, ifF (decide_eq_false (by omega)) ?_⟩
      subst c
      exact ⟨_, rfl, rfl, _, rfl, ifT (decide_eq_true rfl) ⟨_, rfl, a, _, _, x, rfl, hx, xf, no _ (List.mem_singleton.mpr rfl), rfl, one, q⟩⟩
    · refine ⟨_, rfl, _, _, rfl, rfl, _, rfl, ifF (decide_eq_false (by omega)) ?_⟩
      have c24 : ¬ n = 24 := by omega
      exact ⟨_, rfl, rfl, _, rfl, ifF (decide_eq_false fun z => c24 (V.int.inj z)) ⟨Nat.zero_le _, q⟩⟩
/-- which of the classes an error of the class at C stands under -/
def spCls (K : PySem.W.Frag) : Sp := fun vs H Q _ => ∃ (a C : Addr) (fs : List (Str × V)) (b : Str → Bool), vs = [.ref a] ∧ Exv H a C fs ∧ IsC K C ∧ (∀ y ∈ names, PySem.W.kitOne K (.ref C) (.ref (He.ga K y)) = some (b y)) ∧
  ∀ (p : Addr) (H' : Hp), H p = none → Same H H' → H' p = some (.lst (names.map fun y => .bl (b y))) → Q (.ref p) H'
abbrev nCls : List Str := ["_law_error", "_law_found"]
theorem scCls : FnScope nCls ["_law_error"] (defScope (top 40)) := ⟨rfl, rfl, rfl, by decide +kernel, rfl, by decide +kernel, by decide +kernel⟩
theorem ok_cls {f : Addr} {fd : FuncData} (F : FnP K "_law_of_classes" (top 40) f fd) (T : Top K mg) : FnOk P w K mg base CX0 1 f fd ["_law_error"] (spCls K) := by
  refine F.ok scCls (fun vs H Q E h => ?_) (fun cdv A outer s H vs Q E hr h => ?_)
  · obtain ⟨a, C, fs, b, rfl, _⟩ := h
    rfl
  · obtain ⟨a, C, fs, b, rfl, hx, ic, hb, q⟩ := h
    have sc := scCls
    refine ⟨_, PSs.nox (pss_cons (ps_set (i := 1) sc.nd rfl (Or.inl rfl) (pe_lst (pa_cons (pe_callB call_isE (by rfl) T.bl.isinstance (by decide +kernel) (pa_cons (pv 0) (pa_cons (pe_glob (v := .ref (He.ga K "InvalidKind")) rfl (T.cls "InvalidKind" (by decide +kernel)) rfl) pa_nil))) (pa_cons (pe_callB call_isE (by rfl) T.bl.isinstance (by decide +kernel) (pa_cons (pv 0) (pa_cons (pe_glob (v := .ref (He.ga K "InvalidValue")) rfl (T.cls "InvalidValue" (by decide +kernel)) rfl) pa_nil))) (pa_cons (pe_callB call_isE (by rfl) T.bl.isinstance (by decide +kernel) (pa_cons (pv 0) (pa_cons (pe_glob (v := .ref (He.ga K "InvalidLine")) rfl (T.cls "InvalidLine" (by decide +kernel)) rfl) pa_nil))) pa_nil))))) (pss_cons (ps_set (i := 1) sc.nd rfl (Or.inl rfl) (pe_op op_cat (pv 1) (pe_lst (pa_cons (pe_callB call_isE (by rfl) T.bl.isinstance (by decide +kernel) (pa_cons (pv 0) (pa_cons (pe_glob (v := .ref (He.ga K "InvalidThing")) rfl (T.cls "InvalidThing" (by decide +kernel)) rfl) pa_nil))) (pa_cons (pe_callB call_isE (by rfl) T.bl.isinstance (by decide +kernel) (pa_cons (pv 0) (pa_cons (pe_glob (v := .ref (He.ga K "TooMany")) rfl (T.cls "TooMany" (by decide +kernel)) rfl) pa_nil))) (pa_cons (pe_callB call_isE (by rfl) T.bl.isinstance (by decide +kernel) (pa_cons (pv 0) (pa_cons (pe_glob (v := .ref (He.ga K "InvalidTable")) rfl (T.cls "InvalidTable" (by decide +kernel)) rfl) pa_nil))) pa_nil)))))) (pss_cons (ps_set (i := 1) sc.nd rfl (Or.inl rfl) (pe_op op_cat (pv 1) (pe_lst (pa_cons (pe_callB call_isE (by rfl) T.bl.isinstance (by decide +kernel) (pa_cons (pv 0) (pa_cons (pe_glob (v := .ref (He.ga K "InvalidNumber")) rfl (T.cls "InvalidNumber" (by decide +kernel)) rfl) pa_nil))) (pa_cons (pe_callB call_isE (by rfl) T.bl.isinstance (by decide +kernel) (pa_cons (pv 0) (pa_cons (pe_glob (v := .ref (He.ga K "InvalidFilling")) rfl (T.cls "InvalidFilling" (by decide +kernel)) rfl) pa_nil))) pa_nil))))) (pss_cons (ps_set (i := 1) sc.nd rfl (Or.inl rfl) (pe_op op_cat (pv 1) (pe_lst (pa_cons (pe_callB call_isE (by rfl) T.bl.isinstance (by decide +kernel) (pa_cons (pv 0) (pa_cons (pe_glob (v := .ref (He.ga K "InvalidContext")) rfl (T.cls "InvalidContext" (by decide +kernel)) rfl) pa_nil))) (pa_cons (pe_callB call_isE (by rfl) T.bl.isinstance (by decide +kernel) (pa_cons (pv 0) (pa_cons (pe_glob (v := .ref (He.ga K "InvalidArguments")) rfl (T.cls "InvalidArguments" (by decide +kernel)) rfl) pa_nil))) pa_nil))))) (pss_cons (ps_set (i := 1) sc.nd rfl (Or.inl rfl) (pe_op op_cat (pv 1) (pe_lst (pa_cons (pe_callB call_isE (by rfl) T.bl.isinstance (by decide +kernel) (pa_cons (pv 0) (pa_cons (pe_glob (v := .ref (He.ga K "InvalidRelation")) rfl (T.cls "InvalidRelation" (by decide +kernel)) rfl) pa_nil))) (pa_cons (pe_callB call_isE (by rfl) T.bl.isinstance (by decide +kernel) (pa_cons (pv 0) (pa_cons (pe_glob (v := .ref (He.ga K "NotRelated")) rfl (T.cls "NotRelated" (by decide +kernel)) rfl) pa_nil))) pa_nil))))) (pss_cons (ps_set (i := 1) sc.nd rfl (Or.inl rfl) (pe_op op_cat (pv 1) (pe_lst (pa_cons (pe_callB call_isE (by rfl) T.bl.isinstance (by decide +kernel) (pa_cons (pv 0) (pa_cons (pe_glob (v := .ref (He.ga K "InvalidShape")) rfl (T.cls "InvalidShape" (by decide +kernel)) rfl) pa_nil))) (pa_cons (pe_callB call_isE (by rfl) T.bl.isinstance (by decide +kernel) (pa_cons (pv 0) (pa_cons (pe_glob (v := .ref (He.ga K "InvalidThings")) rfl (T.cls "InvalidThings" (by decide +kernel)) rfl) pa_nil))) pa_nil))))) (pss_cons (ps_set (i := 1) sc.nd rfl (Or.inl rfl) (pe_op op_cat (pv 1) (pe_lst (pa_cons (pe_callB call_isE (by rfl) T.bl.isinstance (by decide +kernel) (pa_cons (pv 0) (pa_cons (pe_glob (v := .ref (He.ga K "InvalidAnswers")) rfl (T.cls "InvalidAnswers" (by decide +kernel)) rfl) pa_nil))) (pa_cons (pe_callB call_isE (by rfl) T.bl.isinstance (by decide +kernel) (pa_cons (pv 0) (pa_cons (pe_glob (v := .ref (He.ga K "InvalidNumbers")) rfl (T.cls "InvalidNumbers" (by decide +kernel)) rfl) pa_nil))) pa_nil))))) (pss_cons (ps_set (i := 1) sc.nd rfl (Or.inl rfl) (pe_op op_cat (pv 1) (pe_lst (pa_cons (pe_callB call_isE (by rfl) T.bl.isinstance (by decide +kernel) (pa_cons (pv 0) (pa_cons (pe_glob (v := .ref (He.ga K "InvalidRuns")) rfl (T.cls "InvalidRuns" (by decide +kernel)) rfl) pa_nil))) (pa_cons (pe_callB call_isE (by rfl) T.bl.isinstance (by decide +kernel) (pa_cons (pv 0) (pa_cons (pe_glob (v := .ref (He.ga K "InvalidTerm")) rfl (T.cls "InvalidTerm" (by decide +kernel)) rfl) pa_nil))) (pa_cons (pe_callB call_isE (by rfl) T.bl.isinstance (by decide +kernel) (pa_cons (pv 0) (pa_cons (pe_glob (v := .ref (He.ga K "WrongTerm")) rfl (T.cls "WrongTerm" (by decide +kernel)) rfl) pa_nil))) pa_nil)))))) (pss_cons (ps_set (i := 1) sc.nd rfl (Or.inl rfl) (pe_op op_cat (pv 1) (pe_lst (pa_cons (pe_callB call_isE (by rfl) T.bl.isinstance (by decide +kernel) (pa_cons (pv 0) (pa_cons (pe_glob (v := .ref (He.ga K "InvalidText")) rfl (T.cls "InvalidText" (by decide +kernel)) rfl) pa_nil))) pa_nil)))) (pss_cons (ps_set (i := 1) sc.nd rfl (Or.inl rfl) (pe_op op_cat (pv 1) (pe_lst (pa_cons (pe_callB call_isE (by rfl) T.bl.isinstance (by decide +kernel) (pa_cons (pv 0) (pa_cons (pe_glob (v := .ref (He.ga K "NotData")) rfl (T.cls "NotData" (by decide +kernel)) rfl) pa_nil))) (pa_cons (pe_callB call_isE (by rfl) T.bl.isinstance (by decide +kernel) (pa_cons (pv 0) (pa_cons (pe_glob (v := .ref (He.ga K "NotFirst")) rfl (T.cls "NotFirst" (by decide +kernel)) rfl) pa_nil))) (pa_cons (pe_callB call_isE (by rfl) T.bl.isinstance (by decide +kernel) (pa_cons (pv 0) (pa_cons (pe_glob (v := .ref (He.ga K "NotTested")) rfl (T.cls "NotTested" (by decide +kernel)) rfl) pa_nil))) pa_nil)))))) (pss_one (ps_ret (pe_op op_cat (pv 1) (pe_lst (pa_cons (pe_callB call_isE (by rfl) T.bl.isinstance (by decide +kernel) (pa_cons (pv 0) (pa_cons (pe_glob (v := .ref (He.ga K "NotPutting")) rfl (T.cls "NotPutting" (by decide +kernel)) rfl) pa_nil))) (pa_cons (pe_callB call_isE (by rfl) T.bl.isinstance (by decide +kernel) (pa_cons (pv 0) (pa_cons (pe_glob (v := .ref (He.ga K "Unfilled")) rfl (T.cls "Unfilled" (by decide +kernel)) rfl) pa_nil))) (pa_cons (pe_callB call_isE (by rfl) T.bl.isinstance (by decide +kernel) (pa_cons (pv 0) (pa_cons (pe_glob (v := .ref (He.ga K "UnlikeKinds")) rfl (T.cls "UnlikeKinds" (by decide +kernel)) rfl) pa_nil))) pa_nil))))))))))))))))), ?_⟩
    have kb : ∀ y, names.contains y = true → PySem.W.kitOne K (.ref C) (.ref (He.ga K y)) = some (b y) := fun y hy => hb y (List.contains_iff_mem.mp hy)
    have big : ∀ n : Nat, n ≤ 1000 → n ≤ sizeLine := fun n h => Nat.le_of_lt (small1000 h)
    refine ⟨_, rfl, a, C, fs, _, _, _, rfl, hx, ic, .own _, kb "InvalidKind" (by decide +kernel), _, rfl, a, C, fs, _, _, _, rfl, hx, ic, .own _, kb "InvalidValue" (by decide +kernel), _, rfl, a, C, fs, _, _, _, rfl, hx, ic, .own _, kb "InvalidLine" (by decide +kernel), (by show (3 : Nat) ≤ sizeLine; decide), fun p1 n1 => ?_⟩
    have s1 : Same H (upd H p1 (.lst [V.bl (b "InvalidKind"), V.bl (b "InvalidValue"), V.bl (b "InvalidLine")])) := Same.new n1
    have hx1 := hx.same s1
    refine ⟨_, rfl, _, rfl, a, C, fs, _, _, _, rfl, hx1, ic, .own _, kb "InvalidThing" (by decide +kernel), _, rfl, a, C, fs, _, _, _, rfl, hx1, ic, .own _, kb "TooMany" (by decide +kernel), _, rfl, a, C, fs, _, _, _, rfl, hx1, ic, .own _, kb "InvalidTable" (by decide +kernel), (by show (3 : Nat) ≤ sizeLine; decide), fun p2 n2 => ?_⟩
    have t2 := @Same.new p2 _ (.lst [V.bl (b "InvalidThing"), V.bl (b "TooMany"), V.bl (b "InvalidTable")]) n2
    refine ⟨_, _, _, _, rfl, rfl, t2 p1 _ upd_same, upd_same, big _ (by simp), fun p3 n3 => ?_⟩
    have s3 := (s1.trans t2).trans (@Same.new p3 _ (.lst ([V.bl (b "InvalidKind"), V.bl (b "InvalidValue"), V.bl (b "InvalidLine")] ++ [V.bl (b "InvalidThing"), V.bl (b "TooMany"), V.bl (b "InvalidTable")])) n3)
    have hx3 := hx.same s3
    refine ⟨_, rfl, _, rfl, a, C, fs, _, _, _, rfl, hx3, ic, .own _, kb "InvalidNumber" (by decide +kernel), _, rfl, a, C, fs, _, _, _, rfl, hx3, ic, .own _, kb "InvalidFilling" (by decide +kernel), (by show (2 : Nat) ≤ sizeLine; decide), fun p4 n4 => ?_⟩
    have t4 := @Same.new p4 _ (.lst [V.bl (b "InvalidNumber"), V.bl (b "InvalidFilling")]) n4
    refine ⟨_, _, _, _, rfl, rfl, t4 p3 _ upd_same, upd_same, big _ (by simp), fun p5 n5 => ?_⟩
    have s5 := (s3.trans t4).trans (@Same.new p5 _ (.lst (([V.bl (b "InvalidKind"), V.bl (b "InvalidValue"), V.bl (b "InvalidLine")] ++ [V.bl (b "InvalidThing"), V.bl (b "TooMany"), V.bl (b "InvalidTable")]) ++ [V.bl (b "InvalidNumber"), V.bl (b "InvalidFilling")])) n5)
    have hx5 := hx.same s5
    refine ⟨_, rfl, _, rfl, a, C, fs, _, _, _, rfl, hx5, ic, .own _, kb "InvalidContext" (by decide +kernel), _, rfl, a, C, fs, _, _, _, rfl, hx5, ic, .own _, kb "InvalidArguments" (by decide +kernel), (by show (2 : Nat) ≤ sizeLine; decide), fun p6 n6 => ?_⟩
    have t6 := @Same.new p6 _ (.lst [V.bl (b "InvalidContext"), V.bl (b "InvalidArguments")]) n6
    refine ⟨_, _, _, _, rfl, rfl, t6 p5 _ upd_same, upd_same, big _ (by simp), fun p7 n7 => ?_⟩
    have s7 := (s5.trans t6).trans (@Same.new p7 _ (.lst ((([V.bl (b "InvalidKind"), V.bl (b "InvalidValue"), V.bl (b "InvalidLine")] ++ [V.bl (b "InvalidThing"), V.bl (b "TooMany"), V.bl (b "InvalidTable")]) ++ [V.bl (b "InvalidNumber"), V.bl (b "InvalidFilling")]) ++ [V.bl (b "InvalidContext"), V.bl (b "InvalidArguments")])) n7)
    have hx7 := hx.same s7
    refine ⟨_, rfl, _, rfl, a, C, fs, _, _, _, rfl, hx7, ic, .own _, kb "InvalidRelation" (by decide +kernel), _, rfl, a, C, fs, _, _, _, rfl, hx7, ic, .own _, kb "NotRelated" (by decide +kernel), (by show (2 : Nat) ≤ sizeLine; decide), fun p8 n8 => ?_⟩
    have t8 := @Same.new p8 _ (.lst [V.bl (b "InvalidRelation"), V.bl (b "NotRelated")]) n8
    refine ⟨_, _, _, _, rfl, rfl, t8 p7 _ upd_same, upd_same, big _ (by simp), fun p9 n9 => ?_⟩
    have s9 := (s7.trans t8).trans (@Same.new p9 _ (.lst (((([V.bl (b "InvalidKind"), V.bl (b "InvalidValue"), V.bl (b "InvalidLine")] ++ [V.bl (b "InvalidThing"), V.bl (b "TooMany"), V.bl (b "InvalidTable")]) ++ [V.bl (b "InvalidNumber"), V.bl (b "InvalidFilling")]) ++ [V.bl (b "InvalidContext"), V.bl (b "InvalidArguments")]) ++ [V.bl (b "InvalidRelation"), V.bl (b "NotRelated")])) n9)
    have hx9 := hx.same s9
    refine ⟨_, rfl, _, rfl, a, C, fs, _, _, _, rfl, hx9, ic, .own _, kb "InvalidShape" (by decide +kernel), _, rfl, a, C, fs, _, _, _, rfl, hx9, ic, .own _, kb "InvalidThings" (by decide +kernel), (by show (2 : Nat) ≤ sizeLine; decide), fun p10 n10 => ?_⟩
    have t10 := @Same.new p10 _ (.lst [V.bl (b "InvalidShape"), V.bl (b "InvalidThings")]) n10
    refine ⟨_, _, _, _, rfl, rfl, t10 p9 _ upd_same, upd_same, big _ (by simp), fun p11 n11 => ?_⟩
    have s11 := (s9.trans t10).trans (@Same.new p11 _ (.lst ((((([V.bl (b "InvalidKind"), V.bl (b "InvalidValue"), V.bl (b "InvalidLine")] ++ [V.bl (b "InvalidThing"), V.bl (b "TooMany"), V.bl (b "InvalidTable")]) ++ [V.bl (b "InvalidNumber"), V.bl (b "InvalidFilling")]) ++ [V.bl (b "InvalidContext"), V.bl (b "InvalidArguments")]) ++ [V.bl (b "InvalidRelation"), V.bl (b "NotRelated")]) ++ [V.bl (b "InvalidShape"), V.bl (b "InvalidThings")])) n11)
    have hx11 := hx.same s11
    refine ⟨_, rfl, _, rfl, a, C, fs, _, _, _, rfl, hx11, ic, .own _, kb "InvalidAnswers" (by decide +kernel), _, rfl, a, C, fs, _, _, _, rfl, hx11, ic, .own _, kb "InvalidNumbers" (by decide +kernel), (by show (2 : Nat) ≤ sizeLine; decide), fun p12 n12 => ?_⟩
    have t12 := @Same.new p12 _ (.lst [V.bl (b "InvalidAnswers"), V.bl (b "InvalidNumbers")]) n12
    refine ⟨_, _, _, _, rfl, rfl, t12 p11 _ upd_same, upd_same, big _ (by simp), fun p13 n13 => ?_⟩
    have s13 := (s11.trans t12).trans (@Same.new p13 _ (.lst (((((([V.bl (b "InvalidKind"), V.bl (b "InvalidValue"), V.bl (b "InvalidLine")] ++ [V.bl (b "InvalidThing"), V.bl (b "TooMany"), V.bl (b "InvalidTable")]) ++ [V.bl (b "InvalidNumber"), V.bl (b "InvalidFilling")]) ++ [V.bl (b "InvalidContext"), V.bl (b "InvalidArguments")]) ++ [V.bl (b "InvalidRelation"), V.bl (b "NotRelated")]) ++ [V.bl (b "InvalidShape"), V.bl (b "InvalidThings")]) ++ [V.bl (b "InvalidAnswers"), V.bl (b "InvalidNumbers")])) n13)
    have hx13 := hx.same s13
    refine ⟨_, rfl, _, rfl, a, C, fs, _, _, _, rfl, hx13, ic, .own _, kb "InvalidRuns" (by decide +kernel), _, rfl, a, C, fs, _, _, _, rfl, hx13, ic, .own _, kb "InvalidTerm" (by decide +kernel), _, rfl, a, C, fs, _, _, _, rfl, hx13, ic, .own _, kb "WrongTerm" (by decide +kernel), (by show (3 : Nat) ≤ sizeLine; decide), fun p14 n14 => ?_⟩
    have t14 := @Same.new p14 _ (.lst [V.bl (b "InvalidRuns"), V.bl (b "InvalidTerm"), V.bl (b "WrongTerm")]) n14
    refine ⟨_, _, _, _, rfl, rfl, t14 p13 _ upd_same, upd_same, big _ (by simp), fun p15 n15 => ?_⟩
    have s15 := (s13.trans t14).trans (@Same.new p15 _ (.lst ((((((([V.bl (b "InvalidKind"), V.bl (b "InvalidValue"), V.bl (b "InvalidLine")] ++ [V.bl (b "InvalidThing"), V.bl (b "TooMany"), V.bl (b "InvalidTable")]) ++ [V.bl (b "InvalidNumber"), V.bl (b "InvalidFilling")]) ++ [V.bl (b "InvalidContext"), V.bl (b "InvalidArguments")]) ++ [V.bl (b "InvalidRelation"), V.bl (b "NotRelated")]) ++ [V.bl (b "InvalidShape"), V.bl (b "InvalidThings")]) ++ [V.bl (b "InvalidAnswers"), V.bl (b "InvalidNumbers")]) ++ [V.bl (b "InvalidRuns"), V.bl (b "InvalidTerm"), V.bl (b "WrongTerm")])) n15)
    have hx15 := hx.same s15
    refine ⟨_, rfl, _, rfl, a, C, fs, _, _, _, rfl, hx15, ic, .own _, kb "InvalidText" (by decide +kernel), (by show (1 : Nat) ≤ sizeLine; decide), fun p16 n16 => ?_⟩
    have t16 := @Same.new p16 _ (.lst [V.bl (b "InvalidText")]) n16
    refine ⟨_, _, _, _, rfl, rfl, t16 p15 _ upd_same, upd_same, big _ (by simp), fun p17 n17 => ?_⟩
    have s17 := (s15.trans t16).trans (@Same.new p17 _ (.lst (((((((([V.bl (b "InvalidKind"), V.bl (b "InvalidValue"), V.bl (b "InvalidLine")] ++ [V.bl (b "InvalidThing"), V.bl (b "TooMany"), V.bl (b "InvalidTable")]) ++ [V.bl (b "InvalidNumber"), V.bl (b "InvalidFilling")]) ++ [V.bl (b "InvalidContext"), V.bl (b "InvalidArguments")]) ++ [V.bl (b "InvalidRelation"), V.bl (b "NotRelated")]) ++ [V.bl (b "InvalidShape"), V.bl (b "InvalidThings")]) ++ [V.bl (b "InvalidAnswers"), V.bl (b "InvalidNumbers")]) ++ [V.bl (b "InvalidRuns"), V.bl (b "InvalidTerm"), V.bl (b "WrongTerm")]) ++ [V.bl (b "InvalidText")])) n17)
    have hx17 := hx.same s17
    refine ⟨_, rfl, _, rfl, a, C, fs, _, _, _, rfl, hx17, ic, .own _, kb "NotData" (by decide +kernel), _, rfl, a, C, fs, _, _, _, rfl, hx17, ic, .own _, kb "NotFirst" (by decide +kernel), _, rfl, a, C, fs, _, _, _, rfl, hx17, ic, .own _, kb "NotTested" (by decide +kernel), (by show (3 : Nat) ≤ sizeLine; decide), fun p18 n18 => ?_⟩
    have t18 := @Same.new p18 _ (.lst [V.bl (b "NotData"), V.bl (b "NotFirst"), V.bl (b "NotTested")]) n18
    refine ⟨_, _, _, _, rfl, rfl, t18 p17 _ upd_same, upd_same, big _ (by simp), fun p19 n19 => ?_⟩
    have s19 := (s17.trans t18).trans (@Same.new p19 _ (.lst ((((((((([V.bl (b "InvalidKind"), V.bl (b "InvalidValue"), V.bl (b "InvalidLine")] ++ [V.bl (b "InvalidThing"), V.bl (b "TooMany"), V.bl (b "InvalidTable")]) ++ [V.bl (b "InvalidNumber"), V.bl (b "InvalidFilling")]) ++ [V.bl (b "InvalidContext"), V.bl (b "InvalidArguments")]) ++ [V.bl (b "InvalidRelation"), V.bl (b "NotRelated")]) ++ [V.bl (b "InvalidShape"), V.bl (b "InvalidThings")]) ++ [V.bl (b "InvalidAnswers"), V.bl (b "InvalidNumbers")]) ++ [V.bl (b "InvalidRuns"), V.bl (b "InvalidTerm"), V.bl (b "WrongTerm")]) ++ [V.bl (b "InvalidText")]) ++ [V.bl (b "NotData"), V.bl (b "NotFirst"), V.bl (b "NotTested")])) n19)
    have hx19 := hx.same s19
    refine ⟨_, rfl, _, rfl, a, C, fs, _, _, _, rfl, hx19, ic, .own _, kb "NotPutting" (by decide +kernel), _, rfl, a, C, fs, _, _, _, rfl, hx19, ic, .own _, kb "Unfilled" (by decide +kernel), _, rfl, a, C, fs, _, _, _, rfl, hx19, ic, .own _, kb "UnlikeKinds" (by decide +kernel), (by show (3 : Nat) ≤ sizeLine; decide), fun p20 n20 => ?_⟩
    have t20 := @Same.new p20 _ (.lst [V.bl (b "NotPutting"), V.bl (b "Unfilled"), V.bl (b "UnlikeKinds")]) n20
    refine ⟨_, _, _, _, rfl, rfl, t20 p19 _ upd_same, upd_same, big _ (by simp), fun p21 n21 => ?_⟩
    have s21 := (s19.trans t20).trans (@Same.new p21 _ (.lst (((((((((([V.bl (b "InvalidKind"), V.bl (b "InvalidValue"), V.bl (b "InvalidLine")] ++ [V.bl (b "InvalidThing"), V.bl (b "TooMany"), V.bl (b "InvalidTable")]) ++ [V.bl (b "InvalidNumber"), V.bl (b "InvalidFilling")]) ++ [V.bl (b "InvalidContext"), V.bl (b "InvalidArguments")]) ++ [V.bl (b "InvalidRelation"), V.bl (b "NotRelated")]) ++ [V.bl (b "InvalidShape"), V.bl (b "InvalidThings")]) ++ [V.bl (b "InvalidAnswers"), V.bl (b "InvalidNumbers")]) ++ [V.bl (b "InvalidRuns"), V.bl (b "InvalidTerm"), V.bl (b "WrongTerm")]) ++ [V.bl (b "InvalidText")]) ++ [V.bl (b "NotData"), V.bl (b "NotFirst"), V.bl (b "NotTested")]) ++ [V.bl (b "NotPutting"), V.bl (b "Unfilled"), V.bl (b "UnlikeKinds")])) n21)
    exact q p21 _ ((s19.trans t20).free n21) s21 upd_same
end
end K1
namespace KB
open PySem L2 PySem.Spec PyProof.Rows
theorem dp_bools {K : PySem.W.Frag} {H : Hp} : ∀ bs : List Bool, DpAll K H (bs.map V.bl) (bs.map PyData.bool)
  | [] => .nil
  | b :: bs => .cons (.bl b) (dp_bools bs)
end KB
namespace K1
open PySem PySem.Spec PyProof.Rows L2 KB
def row (k : Nat) : List Bool := (List.range 26).map fun j => decide (j = k)
theorem row_names : ∀ k : Fin 26, (names.map fun y => decide (names.getD k.1 "" = y)) = row k.1 := by decide +kernel
theorem row_shaped : ∀ k : Fin 26, SeqAt.shaped (.list ((row k.1).map PyData.bool)) = true := by decide +kernel
theorem row_eqv : ∀ k : Fin 26, PyData.eqv (.list ((row k.1).map PyData.bool)) (.list ((row k.1).map PyData.bool)) = true := by decide +kernel
section
variable {K : PySem.W.Frag} {mg : Str → Option Value} {base : Heap} {P : Program} {w : World}
def spIsOf (K : PySem.W.Frag) : Sp := fun vs H Q _ => ∃ (n : Int) (a : Addr) (fs : List (Str × V)), vs = [.int n, .ref a] ∧ 0 ≤ n ∧ n < 26 ∧ Exv H a (He.ga K (nmZ n)) fs ∧ ∀ H', Same H H' → Q (.bl true) H'
abbrev nIsOf : List Str := ["_law_number", "_law_error", "_law_at"]
theorem scIsOf : FnScope nIsOf ["_law_number", "_law_error"] (defScope (top 41)) := ⟨rfl, rfl, rfl, by decide +kernel, rfl, by decide +kernel, by decide +kernel⟩
theorem ok_isOf {f fC : Addr} {fd fdC : FuncData} (F : FnP K "_law_is_of" (top 41) f fd) (T : Top K mg) (FC : FnP K "_law_of_classes" (top 40) fC fdC) (gC : mg "_law_of_classes" = some (.ref fC)) (bC : Binds K fdC ["_law_error"] []) (GC : FnOk P w K mg base CX0 1 fC fdC ["_law_error"] (spCls K)) :
    FnOk P w K mg base CX0 2 f fd ["_law_number", "_law_error"] (spIsOf K) := by
  refine F.ok scIsOf (fun vs H Q E h => ?_) (fun cdv A outer s H vs Q E hr h => ?_)
  · obtain ⟨n, a, fs, rfl, _⟩ := h
    rfl
  · obtain ⟨n, a, fs, rfl, h0, h1, hx, q⟩ := h
    have sc := scIsOf
    have hrC : Room 1 _ := hr
    have nm := nm_mem h0 h1
    have ic := (T.e1 _ nm).2
    obtain ⟨k1, k2, k3, k4⟩ := T.e5 _ nm
    refine ⟨_, PSs.nox (pss_cons (ps_if (PW.pt (pw_or (pt_cmpR (op_neD hr.units) (pe_call GC hrC rfl gC FC.kp bC .nil pass0 (pa_cons (pv 1) pa_nil)) (pe_lc (own := [("_law_at", 2)]) (g := gName 2) (tt := tYes) (by rfl) sc.nd (pi_range1 rfl T.bl.range (pa_cons pe_int pa_nil)) (blkOk_by (own := [("_law_at", 2)]) (N := nIsOf) (sc := (defScope (top 41))) (by decide +kernel)) (fun _ _ _ _ _ => pg_name (i := 2) sc.nd rfl (Or.inl rfl)) (fun _ _ _ _ _ => pts_nil) (fun _ _ _ _ _ => (pe_cmpR op_eq (pv 2) (pv 0) (nomark _)))) (nomark _)) (pw_or1 (pt_not (pt_val (pe_callB call_isE (by rfl) T.bl.isinstance (by decide +kernel) (pa_cons (pv 1) (pa_cons (pe_glob (v := .ref (He.ga K "KindError")) rfl (T.cls "KindError" (by decide +kernel)) rfl) pa_nil)))))))) (pss_one (ps_ret pe_bl)) pss_nil) (pss_cons (ps_if (PW.pt (pw_or (pt_not (pt_val (pe_callB call_isE (by rfl) T.bl.isinstance (by decide +kernel) (pa_cons (pv 1) (pa_cons (pe_bltn (v := .ty "ValueError") (by rfl) (T.ty "ValueError" (by decide +kernel)) (by decide +kernel) rfl) pa_nil))))) (pw_or1 (pt_not (pt_val (pe_callB call_isE (by rfl) T.bl.isinstance (by decide +kernel) (pa_cons (pv 1) (pa_cons (pe_bltn (v := .ty "Exception") (by rfl) (T.ty "Exception" (by decide +kernel)) (by decide +kernel) rfl) pa_nil)))))))) (pss_one (ps_ret pe_bl)) pss_nil) (pss_one (ps_ret (pe_not (pe_callB call_isET (by rfl) T.bl.isinstance (by decide +kernel) (pa_cons (pv 1) (pa_cons (pe_tup (pa_cons (pe_bltn (v := .ty "ArithmeticError") (by rfl) (T.ty "ArithmeticError" (by decide +kernel)) (by decide +kernel) rfl) (pa_cons (pe_bltn (v := .ty "LookupError") (by rfl) (T.ty "LookupError" (by decide +kernel)) (by decide +kernel) rfl) (pa_cons (pe_bltn (v := .ty "TypeError") (by rfl) (T.ty "TypeError" (by decide +kernel)) (by decide +kernel) rfl) (pa_cons (pe_bltn (v := .ty "RuntimeError") (by rfl) (T.ty "RuntimeError" (by decide +kernel)) (by decide +kernel) rfl) (pa_cons (pe_bltn (v := .ty "AttributeError") (by rfl) (T.ty "AttributeError" (by decide +kernel)) (by decide +kernel) rfl) pa_nil)))))) pa_nil)))))))), ?_⟩
    refine ⟨_, rfl, a, _, fs, fun y => decide (nmZ n = y), rfl, hx, ic, fun y hy => T.e4 _ nm y hy, fun p H1 np s1 hl => ?_⟩
    refine ⟨26, rfl, by decide, by decide, fun D nD => lc_range (lo := 0) (n := 26) (fun i H2 => Same H1 H2 ∧ H2 D = some (.lst ((List.range i).map fun (j : Nat) => V.bl (decide (V.int (0 + (j : Int)) = V.int n)))))
      ⟨Same.new nD, upd_same⟩ ?_ ?_⟩
    · rintro i H2 hi ⟨s2, hD⟩
      refine ⟨rfl, ?_⟩
      refine iteT (B := Same H1 H2 ∧ H2 D = some (.lst ((List.range (i + 1)).map fun (j : Nat) => V.bl (decide (V.int (0 + (j : Int)) = V.int n))))) ?_
      refine ⟨_, rfl, _, rfl, rfl, _, hD, small1000 (by rw [List.length_map, List.length_range]; omega), fun b o e => ?_, ?_⟩
      · rw [upd_ne (ne_of_none e nD)]
        exact s2 b o e
      · rw [upd_same, List.range_succ, List.map_append]
        rfl
    · rintro H2 ⟨s2, hD⟩
      have l1 := s2 _ _ hl
      have kk : n.toNat < 26 := by omega
      have e1 : (names.map fun y => V.bl (decide (nmZ n = y))) = (row n.toNat).map V.bl := by
        rw [← row_names ⟨n.toNat, kk⟩, List.map_map]
        rfl
      have e2 : ((List.range 26).map fun (j : Nat) => V.bl (decide (V.int (0 + (j : Int)) = V.int n))) = (row n.toNat).map V.bl := by
        unfold row
        rw [List.map_map]
        refine List.map_congr_left fun j hj => congrArg V.bl (Bool.eq_iff_iff.mpr ?_)
        simp only [decide_eq_true_eq, V.int.injEq]
        omega
      rw [e1] at l1
      rw [e2] at hD
      have sh := row_shaped ⟨n.toNat, kk⟩
      have layq : PyData.eqv (.list ((row n.toNat).map PyData.bool)) (.list ((row n.toNat).map PyData.bool)) = true := row_eqv ⟨n.toNat, kk⟩
      have s12 := s1.trans s2
      have hx2 := hx.same s12
      refine ⟨_, _, .lst (SqL.of l1) (dp_bools _), .lst (SqL.of hD) (dp_bools _), sh, sh, _, rfl, ?_⟩
      rw [layq]
      refine iteF ⟨_, rfl, a, _, fs, _, _, _, rfl, hx2, ic, .own _, k1, _, rfl, iteF ?_⟩
      refine ⟨_, rfl, a, _, fs, _, _, _, rfl, hx2, ic, .ty _, k2, _, rfl, iteF ⟨_, rfl, a, _, fs, _, _, _, rfl, hx2, ic, .ty _, k3, _, rfl, iteF ?_⟩⟩
      refine ⟨_, rfl, (by show (5 : Nat) ≤ sizeLine; decide), fun tp nt => ?_⟩
      refine ⟨a, _, fs, tp, _, _, _, rfl, hx2.same (Same.new nt), ic, upd_same, .cons (.ty _) (.cons (.ty _) (.cons (.ty _) (.cons (.ty _) (.cons (.ty _) .nil)))), k4, _, rfl, q _ (s12.trans (Same.new nt))⟩
end
end K1
/-! ### zip of a tuple and two lists of its length -/
namespace KZ
open PySem
open PySem.Sem (wp)
theorem ad {a b : Nat} (h : a ≠ b) : @Ne Addr a b := h
abbrev Is3 (h : Heap) (T : Addr) (a b c : Value) : Prop := h.get? T = some { cls := .type "tuple", data := .seq #[a, b, c] }
section
variable {A : Around} {E : Value → Shared → Prop} {s : Shared} {prog : Program} {w : World}
theorem upd3 {T : Addr} {a b c x : Value} {k : Nat} {Q : Unit → Shared → Prop} (hT : Is3 s.heap T a b c)
    (h : ∀ h', h'.get? T = some { cls := .type "tuple", data := .seq ((#[a, b, c] : Array Value).setIfInBounds k x) } → Heap.SameBut T s.heap h' → Q () { s with heap := h' }) : wpAny (model prog w) A (updateSeq T (·.setIfInBounds k x)) Q E s := by
  refine wpAny_updateSeq hT rfl (h _ ?_ (Heap.SameBut.update ..)); rw [Heap.get?_update_self _ hT rfl]
  simp [Obj.mapSeq]
theorem next_item {n l1 l2 l3 : Nat} {k : Nat} {xs ys zs : Array Value} {x y u a b c : Value} {Q : Value → Shared → Prop} (n1 : l1 < n) (n2 : l2 < n) (n3 : l3 < n)
    (hz : IsZip s.heap (n + 5) (n + 3) (n + 4) .none) (hTI : Is3 s.heap (n + 3) (.ref n) (.ref (n + 1)) (.ref (n + 2))) (hTO : Is3 s.heap (n + 4) a b c)
    (h1 : s.heap.IsTupleIter n l1 k) (h2 : s.heap.IsListIter (n + 1) l2 k) (h3 : s.heap.IsListIter (n + 2) l3 k) (hl1 : s.heap.IsTuple l1 xs) (hl2 : s.heap.IsList l2 ys) (hl3 : s.heap.IsList l3 zs)
    (hx : xs[k]? = some x) (hy : ys[k]? = some y) (hu : zs[k]? = some u)
    (hQ : ∀ h', IsZip h' (n + 5) (n + 3) (n + 4) (rawInt s.heap.objs.size) → Is3 h' (n + 4) x y u → h'.IsTupleIter n l1 (k + 1) → h'.IsListIter (n + 1) l2 (k + 1) → h'.IsListIter (n + 2) l3 (k + 1) →
      Is3 h' s.heap.objs.size x y u → h'.objs.size = s.heap.objs.size + 1 →
      (∀ c o, c ≠ n + 5 → c ≠ n + 4 → c ≠ n → c ≠ n + 1 → c ≠ n + 2 → s.heap.get? c = some o → h'.get? c = some o) → Q (.ref s.heap.objs.size) { s with heap := h' }) :
    wpAny (model prog w) A (Builtin.«zip.__next__» ⟨[.ref (n + 5)], []⟩) (fun fin s' => ∃ v, fin = .done (.ret v) ∧ Q v s') E s := by
  have ne : ∀ {a b : Nat}, a < b → a ≠ b := fun h => Nat.ne_of_lt h
  show wpAny _ _ (field (.ref (n + 5)) 2 >>= _) _ _ _
  refine wpAny_bind (wpAny_field hz rfl (x := .bool false) rfl ?_); show wpAny _ _ (field (.ref (n + 5)) 3 >>= _) _ _ _
  refine wpAny_bind (wpAny_field hz rfl (x := .ref (n + 3)) rfl ?_)
  refine wpAny_bind (wpAny_seqItems hTI rfl ?_); show wpAny _ _ (Builtin.SmallTypes.ownedTupleIsFree (.ref (n + 5)) >>= _) _ _ _
  refine wpAny_bind ?_
  unfold Builtin.SmallTypes.ownedTupleIsFree; refine wpAny_bind (wpAny_field hz rfl (x := .none) rfl (wpAny_pure ?_))
  simp only [if_true]
  refine wpAny_bind (wpAny_rule ?_); refine wpAny_bind (wpAny_field hz rfl (x := .ref (n + 4)) rfl ?_)
  refine wpAny_bind (wpAny_setField_rec hz (by simp) fun g1 z1 s1 => ?_)
  replace z1 : IsZip g1 (n + 5) (n + 3) (n + 4) .ellipsis := z1
  refine wpAny_bind ?_; simp only [List.zipIdx_cons, List.zipIdx_nil, List.forIn_cons, List.forIn_nil]
  -- the tuple's
  refine wpAny_bind (wpAny_bind (wpAny_onRaise ?_)); show wpAny _ _ (Builtin.SmallTypes.nextOf (.ref n) >>= _) _ _ _
  refine wpAny_bind (RZ.nextOf_tuple_item (h1.extBut s1.extBut (ad (by omega))) (hl1.extBut s1.extBut (ad (by omega))) hx fun g2 i2 s2 => wpAny_pure ?_)
  have t2 : Is3 g2 (n + 4) a b c := s2.extBut _ _ (ad (by omega)) (s1.extBut _ _ (ad (by omega)) hTO)
  refine wpAny_bind (wpAny_seqItems t2 rfl ?_)
  refine wpAny_bind (upd3 t2 fun g3 t3 s3 => ?_)
  replace t3 : Is3 g3 (n + 4) x b c := t3
  refine wpAny_bind <| wpAny_letGo <| wpAny_pure ?_
  -- the first list's
  refine wpAny_bind (wpAny_bind (wpAny_onRaise ?_)); show wpAny _ _ (Builtin.SmallTypes.nextOf (.ref (n + 1)) >>= _) _ _ _
  refine wpAny_bind (wpAny_nextOf_list_item (((h2.extBut s1.extBut (ad (by omega))).extBut s2.extBut (ad (by omega))).extBut s3.extBut (ad (by omega)))
    (((hl2.extBut s1.extBut (ad (by omega))).extBut s2.extBut (ad (by omega))).extBut s3.extBut (ad (by omega))) hy fun g4 i4 s4 => wpAny_pure ?_)
  have t4 : Is3 g4 (n + 4) x b c := s4.extBut _ _ (ad (by omega)) t3
  refine wpAny_bind (wpAny_seqItems t4 rfl ?_)
  refine wpAny_bind (upd3 t4 fun g5 t5 s5 => ?_)
  replace t5 : Is3 g5 (n + 4) x y c := t5
  refine wpAny_bind <| wpAny_letGo <| wpAny_pure ?_
  -- the other list's
  refine wpAny_bind (wpAny_bind (wpAny_onRaise ?_)); show wpAny _ _ (Builtin.SmallTypes.nextOf (.ref (n + 2)) >>= _) _ _ _
  refine wpAny_bind (wpAny_nextOf_list_item (((((h3.extBut s1.extBut (ad (by omega))).extBut s2.extBut (ad (by omega))).extBut s3.extBut (ad (by omega))).extBut s4.extBut (ad (by omega))).extBut s5.extBut (ad (by omega)))
    (((((hl3.extBut s1.extBut (ad (by omega))).extBut s2.extBut (ad (by omega))).extBut s3.extBut (ad (by omega))).extBut s4.extBut (ad (by omega))).extBut s5.extBut (ad (by omega))) hu fun g6 i6 s6 => wpAny_pure ?_)
  have t6 : Is3 g6 (n + 4) x y c := s6.extBut _ _ (ad (by omega)) t5
  refine wpAny_bind (wpAny_seqItems t6 rfl ?_)
  refine wpAny_bind (upd3 t6 fun g7 t7 s7 => ?_)
  replace t7 : Is3 g7 (n + 4) x y u := t7
  refine wpAny_bind (wpAny_letGo (wpAny_pure (wpAny_pure ?_))); refine wpAny_bind (wpAny_seqItems t7 rfl ?_)
  refine wpAny_bind <| wpAny_newTuple ?_
  have size : g7.objs.size = s.heap.objs.size := by rw [s7.1, s6.1, s5.1, s4.1, s3.1, s2.1, s1.1]
  have z7 : IsZip g7 (n + 5) (n + 3) (n + 4) .ellipsis := s7.extBut _ _ (ad (by omega)) (s6.extBut _ _ (ad (by omega)) (s5.extBut _ _ (ad (by omega)) (s4.extBut _ _ (ad (by omega)) (s3.extBut _ _ (ad (by omega)) (s2.extBut _ _ (ad (by omega)) z1)))))
  have k7 : ∀ c o, c ≠ n + 5 → c ≠ n + 4 → c ≠ n → c ≠ n + 1 → c ≠ n + 2 → s.heap.get? c = some o → g7.get? c = some o := fun c o c1 c2 c3 c4 c5 e =>
    s7.extBut _ _ c2 (s6.extBut _ _ c5 (s5.extBut _ _ c2 (s4.extBut _ _ c4 (s3.extBut _ _ c2 (s2.extBut _ _ c3 (s1.extBut _ _ c1 e))))))
  have a7 : g7.IsTupleIter n l1 (k + 1) := ((((i2.extBut s3.extBut (ad (by omega))).extBut s4.extBut (ad (by omega))).extBut s5.extBut (ad (by omega))).extBut s6.extBut (ad (by omega))).extBut s7.extBut (ad (by omega))
  have b7 : g7.IsListIter (n + 1) l2 (k + 1) := ((i4.extBut s5.extBut (ad (by omega))).extBut s6.extBut (ad (by omega))).extBut s7.extBut (ad (by omega))
  have c7 : g7.IsListIter (n + 2) l3 (k + 1) := i6.extBut s7.extBut (ad (by omega))
  have lz : n + 5 < g7.objs.size := Heap.lt_size z7
  show wpAny _ _ (Builtin.SmallTypes.ownedTupleHandOut (.ref (n + 5)) (.ref g7.objs.size) >>= _) _ _ _
  refine wpAny_bind ?_
  unfold Builtin.SmallTypes.ownedTupleHandOut; have z8 : IsZip (g7.push { cls := .type "tuple", data := .seq #[x, y, u] }) (n + 5) (n + 3) (n + 4) .ellipsis := Heap.get?_push_of_some _ z7
  refine wpAny_bind (wpAny_setField_rec z8 (by simp) fun g9 z9 s9 => ?_)
  replace z9 : IsZip g9 (n + 5) (n + 3) (n + 4) (rawInt g7.objs.size) := z9
  refine wpAny_setField_rec z9 (by simp) fun ga za sa => ?_
  replace za : IsZip ga (n + 5) (n + 3) (n + 4) (rawInt g7.objs.size) := za
  have up : ∀ c o, c ≠ n + 5 → g7.get? c = some o → ga.get? c = some o := fun c o c1 e => sa.extBut _ _ c1 (s9.extBut _ _ c1 (Heap.get?_push_of_some _ e))
  have ta : Is3 ga g7.objs.size x y u := sa.extBut _ _ (Nat.ne_of_gt lz) (s9.extBut _ _ (Nat.ne_of_gt lz) (Heap.get?_push_size _ rfl))
  have size2 : ga.objs.size = g7.objs.size + 1 := by rw [sa.1, s9.1, Heap.size_push]
  rw [size] at za ta size2
  refine wpAny_pure ⟨_, rfl, ?_⟩; show Q (.ref g7.objs.size) _
  rw [size]
  exact hQ ga za (up _ _ (ad (by omega)) t7) (a7.at fun o e => up _ o (ad (by omega)) e) (b7.at fun o e => up _ o (ad (by omega)) e) (c7.at fun o e => up _ o (ad (by omega)) e) ta size2 fun c o c1 c2 c3 c4 c5 e => up c o c1 (k7 c o c1 c2 c3 c4 c5 e)
theorem next_end {n l1 : Nat} {k : Nat} {xs : Array Value} {a b c : Value} {Q : Fin → Shared → Prop} (hh : A.handled = none) (n1 : l1 < n)
    (hz : IsZip s.heap (n + 5) (n + 3) (n + 4) .none) (hTI : Is3 s.heap (n + 3) (.ref n) (.ref (n + 1)) (.ref (n + 2))) (h1 : s.heap.IsTupleIter n l1 k) (hl1 : s.heap.IsTuple l1 xs) (hx : xs[k]? = none)
    (hE : ∀ h' e, (∀ c o, c ≠ n + 5 → c ≠ n → s.heap.get? c = some o → h'.get? c = some o) → (∃ o, h'.get? e = some o ∧ o.cls = .type "StopIteration") → E (.ref e) { s with heap := h' }) :
    wpAny (model prog w) A (Builtin.«zip.__next__» ⟨[.ref (n + 5)], []⟩) Q E s := by
  show wpAny _ _ (field (.ref (n + 5)) 2 >>= _) _ _ _
  refine wpAny_bind (wpAny_field hz rfl (x := .bool false) rfl ?_); show wpAny _ _ (field (.ref (n + 5)) 3 >>= _) _ _ _
  refine wpAny_bind (wpAny_field hz rfl (x := .ref (n + 3)) rfl ?_)
  refine wpAny_bind (wpAny_seqItems hTI rfl ?_); show wpAny _ _ (Builtin.SmallTypes.ownedTupleIsFree (.ref (n + 5)) >>= _) _ _ _
  refine wpAny_bind ?_
  unfold Builtin.SmallTypes.ownedTupleIsFree; refine wpAny_bind (wpAny_field hz rfl (x := .none) rfl (wpAny_pure ?_))
  simp only [if_true]
  refine wpAny_bind (wpAny_rule ?_); refine wpAny_bind (wpAny_field hz rfl (x := .ref (n + 4)) rfl ?_)
  refine wpAny_bind (wpAny_setField_rec hz (by simp) fun g1 z1 s1 => ?_)
  replace z1 : IsZip g1 (n + 5) (n + 3) (n + 4) .ellipsis := z1
  refine wpAny_bind ?_
  simp only [List.zipIdx_cons, List.zipIdx_nil, List.forIn_cons, List.forIn_nil]; refine wpAny_bind (wpAny_bind (wpAny_onRaise ?_))
  show wpAny _ _ (Builtin.SmallTypes.nextOf (.ref n) >>= _) _ _ _
  refine wpAny_bind (RZ.nextOf_tuple_end hh (h1.extBut s1.extBut (ad (by omega))) (hl1.extBut s1.extBut (ad (by omega))) hx fun g2 e s2 he => ?_)
  obtain ⟨oe, hoe, hce⟩ := he
  have z2 : IsZip g2 (n + 5) (n + 3) (n + 4) .ellipsis := s2 _ _ (ad (by omega)) z1
  have hez : e ≠ n + 5 := fun x => by
    subst x
    rw [z2] at hoe
    cases hoe
    simp at hce
  refine wpAny_setField_rec z2 (by simp) fun g3 _ s3 => hE g3 e (fun c o c1 c3 x => s3.extBut _ _ c1 (s2 _ _ c3 (s1.extBut _ _ c1 x))) ⟨oe, s3.extBut _ _ hez hoe, hce⟩
theorem pyNext_item {n l1 l2 l3 : Nat} {k : Nat} {xs ys zs : Array Value} {x y u a b c : Value} {Q : Option Value → Shared → Prop} (n1 : l1 < n) (n2 : l2 < n) (n3 : l3 < n)
    (hz : IsZip s.heap (n + 5) (n + 3) (n + 4) .none) (hTI : Is3 s.heap (n + 3) (.ref n) (.ref (n + 1)) (.ref (n + 2))) (hTO : Is3 s.heap (n + 4) a b c)
    (h1 : s.heap.IsTupleIter n l1 k) (h2 : s.heap.IsListIter (n + 1) l2 k) (h3 : s.heap.IsListIter (n + 2) l3 k) (hl1 : s.heap.IsTuple l1 xs) (hl2 : s.heap.IsList l2 ys) (hl3 : s.heap.IsList l3 zs)
    (hx : xs[k]? = some x) (hy : ys[k]? = some y) (hu : zs[k]? = some u)
    (hQ : ∀ h', IsZip h' (n + 5) (n + 3) (n + 4) (rawInt s.heap.objs.size) → Is3 h' (n + 4) x y u → h'.IsTupleIter n l1 (k + 1) → h'.IsListIter (n + 1) l2 (k + 1) → h'.IsListIter (n + 2) l3 (k + 1) →
      Is3 h' s.heap.objs.size x y u → h'.objs.size = s.heap.objs.size + 1 →
      (∀ c o, c ≠ n + 5 → c ≠ n + 4 → c ≠ n → c ≠ n + 1 → c ≠ n + 2 → s.heap.get? c = some o → h'.get? c = some o) → Q (some (.ref s.heap.objs.size)) { s with heap := h' }) :
    wpAny (model prog w) A (pyNext (.ref (n + 5))) Q E s := by
  have hT : s.TypeIs (.ref (n + 5)) "zip" := ⟨_, hz, rfl⟩
  unfold pyNext; exact wpAny_bind (wpAny_attempt (wpAny_callSpecial?_slot (name := Str.ofString "__next__") hT F.slot_zip_next (wpAny_call_entry F.slot_zip_next hT F.entry_zip_next
      (next_item n1 n2 n3 hz hTI hTO h1 h2 h3 hl1 hl2 hl3 hx hy hu fun h' a1 a2 a3 a4 a5 a6 a7 a8 => wpAny_pure (hQ h' a1 a2 a3 a4 a5 a6 a7 a8)) (F.args_zip_next_1 _))))
theorem pyNext_end {n l1 : Nat} {k : Nat} {xs : Array Value} {Q : Option Value → Shared → Prop} (hh : A.handled = none) (n1 : l1 < n)
    (hz : IsZip s.heap (n + 5) (n + 3) (n + 4) .none) (hTI : Is3 s.heap (n + 3) (.ref n) (.ref (n + 1)) (.ref (n + 2))) (h1 : s.heap.IsTupleIter n l1 k) (hl1 : s.heap.IsTuple l1 xs) (hx : xs[k]? = none)
    (hQ : ∀ h', (∀ c o, c ≠ n + 5 → c ≠ n → s.heap.get? c = some o → h'.get? c = some o) → Q none { s with heap := h' }) : wpAny (model prog w) A (pyNext (.ref (n + 5))) Q E s := by
  have hT : s.TypeIs (.ref (n + 5)) "zip" := ⟨_, hz, rfl⟩
  unfold pyNext; refine wpAny_bind (wpAny_attempt (wpAny_callSpecial?_slot (name := Str.ofString "__next__") hT F.slot_zip_next
    (wpAny_call_entry F.slot_zip_next hT F.entry_zip_next (next_end (a := .none) (b := .none) (c := .none) hh n1 hz hTI h1 hl1 hx fun h' e hk he => ?_) (F.args_zip_next_1 _))))
  obtain ⟨o, ho, hc⟩ := he
  refine wpAny_bind (wpAny_isInstance (T := "StopIteration") (b := true) ⟨o, ho, hc⟩ isSubtype_stop ?_); exact wpAny_pure (hQ _ hk)
end
end KZ
namespace KZ
open PySem
open PySem.Sem (wp)
theorem typeCall3 (a b c : Value) : checkTypeCall "zip" ⟨[a, b, c], []⟩ = pure () := by kernel_rfl
theorem newCall3 (a b c : Value) : checkBuiltinCall "zip.__new__" ⟨[.type "zip", a, b, c], []⟩ = pure () := by kernel_rfl
theorem initArgs4 (a b c d : Value) : argsOk "object.__init__" ⟨[a, b, c, d], []⟩ := by
  unfold argsOk
  rw [signature?_of (id := "object.__init__") (n := ['_', '_', 't', 'i', 'n', 'i', '_', '_']) (o := ['t', 'c', 'e', 'j', 'b', 'o']) (by kernel_rfl) F.owner_object]
  kernel_rfl
abbrev g1 (h : Heap) (l1 : Addr) : Heap := h.push { cls := .type "tuple_iterator", data := .fields #[.ref l1, .int 0 0] }
abbrev g2 (h : Heap) (l1 l2 : Addr) : Heap := (g1 h l1).push { cls := .type "list_iterator", data := .fields #[.ref l2, .int 0 0] }
abbrev g3 (h : Heap) (l1 l2 l3 : Addr) : Heap := (g2 h l1 l2).push { cls := .type "list_iterator", data := .fields #[.ref l3, .int 0 0] }
abbrev g4 (h : Heap) (l1 l2 l3 : Addr) : Heap := (g3 h l1 l2 l3).push { cls := .type "tuple", data := .seq #[.ref h.objs.size, .ref (g1 h l1).objs.size, .ref (g2 h l1 l2).objs.size] }
abbrev g5 (h : Heap) (l1 l2 l3 : Addr) : Heap := (g4 h l1 l2 l3).push { cls := .type "tuple", data := .seq #[.none, .none, .none] }
abbrev g6 (h : Heap) (l1 l2 l3 : Addr) : Heap := (g5 h l1 l2 l3).push { cls := .type "zip", data := .fields #[.none, .bool false, .bool false, .ref (g3 h l1 l2 l3).objs.size, .ref (g4 h l1 l2 l3).objs.size] }
theorem meets3 (l1 l2 l3 : Addr) (xs ys zs : Array Value) :
    Meets (Builtin.«zip.__new__» ⟨[.type "zip", .ref l1, .ref l2, .ref l3], []⟩) (fun _ R s => s.heap.IsTuple l1 xs ∧ s.heap.IsList l2 ys ∧ s.heap.IsList l3 zs ∧
      R (.ok (.ret (.ref (g5 s.heap l1 l2 l3).objs.size))) { s with heap := g6 s.heap l1 l2 l3 }) := .of_wp fun prog w A R s h => by
    obtain ⟨hp, g, d, tk, os⟩ := s; obtain ⟨hl1, hl2, hl3, h⟩ := h
    have hsub := sub_zip
    have a1 : Heap.IsTuple (Shared.heap ⟨hp, g, d, tk, os⟩) l1 xs := hl1
    have a2 : Heap.IsList (Shared.heap ⟨g1 hp l1, g, d, tk, os⟩) l2 ys := Heap.IsList.push hl2 _
    have a3 : Heap.IsList (Shared.heap ⟨g2 hp l1 l2, g, d, tk, os⟩) l3 zs := Heap.IsList.push (Heap.IsList.push hl3 _) _
    wp_walk using wpAny_pyIter_tuple a1, wpAny_pyIter_list a2, wpAny_pyIter_list a3
    exact ⟨_, rfl, h⟩
section
variable {A : Around} {E : Value → Shared → Prop} {s : Shared} {prog : Program} {w : World}
theorem call3 {l1 l2 l3 : Addr} {xs ys zs : Array Value} {Q : Value → Shared → Prop} (hl1 : s.heap.IsTuple l1 xs) (hl2 : s.heap.IsList l2 ys) (hl3 : s.heap.IsList l3 zs)
    (h : ∀ (n : Nat) (h' : Heap), n = s.heap.objs.size → IsZip h' (n + 5) (n + 3) (n + 4) .none → Is3 h' (n + 3) (.ref n) (.ref (n + 1)) (.ref (n + 2)) → Is3 h' (n + 4) .none .none .none → h'.IsTupleIter n l1 0 → h'.IsListIter (n + 1) l2 0 → h'.IsListIter (n + 2) l3 0 →
      (∀ c o, s.heap.get? c = some o → h'.get? c = some o) → Q (.ref (n + 5)) { s with heap := h' }) :
    wpAny (model prog w) A (call (.type "zip") [.ref l1, .ref l2, .ref l3]) Q E s := by
  refine callType_new F.called_zip (by decide) (typeCall3 _ _ _) (newCall3 _ _ _) (fun obj => initArgs4 obj _ _ _) F.entry_zip_new (meets3 l1 l2 l3 xs ys zs) ⟨hl1, hl2, hl3, ?_⟩
  have z1 : (g1 s.heap l1).objs.size = s.heap.objs.size + 1 := Heap.size_push ..
  have z2 : (g2 s.heap l1 l2).objs.size = s.heap.objs.size + 2 := by rw [Heap.size_push, z1]
  have z3 : (g3 s.heap l1 l2 l3).objs.size = s.heap.objs.size + 3 := by rw [Heap.size_push, z2]
  have z4 : (g4 s.heap l1 l2 l3).objs.size = s.heap.objs.size + 4 := by rw [Heap.size_push, z3]
  have z5 : (g5 s.heap l1 l2 l3).objs.size = s.heap.objs.size + 5 := by rw [Heap.size_push, z4]
  have e6 : (g6 s.heap l1 l2 l3).get? (g5 s.heap l1 l2 l3).objs.size = some _ := Heap.get?_push_size _ rfl
  have e5 : (g6 s.heap l1 l2 l3).get? (g4 s.heap l1 l2 l3).objs.size = some _ := Heap.get?_push_of_some _ (Heap.get?_push_size _ rfl)
  have e4 : (g6 s.heap l1 l2 l3).get? (g3 s.heap l1 l2 l3).objs.size = some _ := Heap.get?_push_of_some _ (Heap.get?_push_of_some _ (Heap.get?_push_size _ rfl))
  have e3 : (g6 s.heap l1 l2 l3).get? (g2 s.heap l1 l2).objs.size = some _ := Heap.get?_push_of_some _ (Heap.get?_push_of_some _ (Heap.get?_push_of_some _ (Heap.get?_push_size _ rfl)))
  have e2 : (g6 s.heap l1 l2 l3).get? (g1 s.heap l1).objs.size = some _ := Heap.get?_push_of_some _ (Heap.get?_push_of_some _ (Heap.get?_push_of_some _ (Heap.get?_push_of_some _ (Heap.get?_push_size _ rfl))))
  have e1 : (g6 s.heap l1 l2 l3).get? s.heap.objs.size = some _ := Heap.get?_push_of_some _ (Heap.get?_push_of_some _ (Heap.get?_push_of_some _ (Heap.get?_push_of_some _ (Heap.get?_push_of_some _ (Heap.get?_push_size _ rfl)))))
  show _ ∧ _
  rw [z3, z4, z5] at e6
  rw [z4] at e5
  rw [z1, z2, z3] at e4
  rw [z2] at e3
  rw [z1] at e2
  rw [z5]
  refine ⟨⟨_, e6, rfl⟩, h _ _ rfl e6 e4 e5 ⟨_, e1, rfl, rfl⟩ ⟨_, e2, rfl, rfl⟩ ⟨_, e3, rfl, rfl⟩ fun c o x => ?_⟩
  exact Heap.get?_push_of_some _ (Heap.get?_push_of_some _ (Heap.get?_push_of_some _ (Heap.get?_push_of_some _ (Heap.get?_push_of_some _ (Heap.get?_push_of_some _ x)))))
end
end KZ
namespace KZ
open PySem L2 PySem.Spec PyProof.Rows
/-- the tuple at a and the lists at b and c as they stand at each turn, the items in new tuples -/
def It3 (K : PySem.W.Frag) (a b c : Addr) : It :=
  ⟨fun i H => ∃ (xs ys zs : List V) (x y z : V), SqT K H a xs ∧ SqL K H b ys ∧ SqL K H c zs ∧ xs[i]? = some x ∧ ys[i]? = some y ∧ zs[i]? = some z,
    fun i H v H' => ∃ T x y z, v = .ref T ∧ H T = none ∧ H' = upd H T (.tup [x, y, z]) ∧ (∀ xs, SqT K H a xs → xs[i]? = some x) ∧ (∀ ys, SqL K H b ys → ys[i]? = some y) ∧ ∀ zs, SqL K H c zs → zs[i]? = some z,
    fun i H => ∃ xs : List V, SqT K H a xs ∧ xs.length ≤ i⟩
def St3 (n : Nat) (a b c : Addr) (i : Nat) (h : Heap) : Prop := IsZip h (n + 5) (n + 3) (n + 4) .none ∧ Is3 h (n + 3) (.ref n) (.ref (n + 1)) (.ref (n + 2)) ∧ (∃ x y z, Is3 h (n + 4) x y z) ∧
  h.IsTupleIter n a i ∧ h.IsListIter (n + 1) b i ∧ h.IsListIter (n + 2) c i
abbrev fp3 (n : Nat) : List Addr := [n + 5, n + 3, n + 4, n, n + 1, n + 2]
theorem fp3_cases {n : Nat} {d : Addr} (h : d ∈ fp3 n) : d = n + 5 ∨ d = n + 3 ∨ d = n + 4 ∨ d = n ∨ d = n + 1 ∨ d = n + 2 := by simpa using h
theorem fp3_le {n d : Nat} (h : d ∈ fp3 n) : n ≤ d ∧ d ≤ n + 5 := by
  have q : d = n + 5 ∨ d = n + 3 ∨ d = n + 4 ∨ d = n ∨ d = n + 1 ∨ d = n + 2 := fp3_cases h
  omega
theorem fp3_out {n : Nat} {d : Addr} (h : d ∉ fp3 n) : d ≠ n + 5 ∧ d ≠ n + 4 ∧ d ≠ n ∧ d ≠ n + 1 ∧ d ≠ n + 2 := by
  refine ⟨fun q => h ?_, fun q => h ?_, fun q => h ?_, fun q => h ?_, fun q => h ?_⟩ <;> simp [q]
theorem turn3 {P : Program} {w : World} {K : PySem.W.Frag} {elts : List Expr} {kk : Nat} {tpos : Pos} {n : Nat} {a b c : Nat} (na : a < n) (nb : b < n) (nc : c < n) :
    Turn P w K (.Tuple elts kk tpos) (It3 K a b c) (fp3 n) (n + 5) (St3 n a b c) where
  mem := by simp
  obj := by
    rintro i h ⟨hz, hTI, ⟨x, y, z, hTO⟩, ⟨o1, e1, _, d1⟩, ⟨o2, e2, _, d2⟩, ⟨o3, e3, _, d3⟩⟩ d hd
    rcases fp3_cases hd with q | q | q | q | q | q
    · rw [q]
      exact ⟨_, hz, fun v q => nomatch q⟩
    · rw [q]
      exact ⟨_, hTI, fun v q => nomatch q⟩
    · rw [q]
      exact ⟨_, hTO, fun v q => nomatch q⟩
    · rw [q]
      exact ⟨o1, e1, fun v q => by rw [d1] at q; cases q⟩
    · rw [q]
      exact ⟨o2, e2, fun v q => by rw [d2] at q; cases q⟩
    · rw [q]; exact ⟨o3, e3, fun v q => by rw [d3] at q; cases q⟩
  keep := by
    rintro i h h' ⟨hz, hTI, ⟨x, y, z, hTO⟩, h1, h2, h3⟩ k
    exact ⟨k _ (by simp) _ hz, k _ (by simp) _ hTI, ⟨x, y, z, k _ (by simp) _ hTO⟩, h1.at fun o q => k _ (by simp) o q, h2.at fun o q => k _ (by simp) o q, h3.at fun o q => k _ (by simp) o q⟩
  item := by
    intro X hP hw hK hc i pins s σ H E I hf st hg; subst hP hw hK
    obtain ⟨hz, hTI, ⟨x0, y0, z0, hTO⟩, h1, h2, h3⟩ := st
    obtain ⟨xs, ys, zs, x, y, z, hqx, hqy, hqz, hx, hy, hzz⟩ := hg
    obtain ⟨its, rv, p, _⟩ := I.tuple hqx; obtain ⟨its2, rv2, p2, _⟩ := I.list hqy
    obtain ⟨its3, rv3, p3, _⟩ := I.list hqz
    obtain ⟨u1, hu1, ru1⟩ := rv.get hx
    obtain ⟨u2, hu2, ru2⟩ := rv2.get hy; obtain ⟨u3, hu3, ru3⟩ := rv3.get hzz
    have hzl : n + 5 < s.heap.objs.size := Heap.lt_size hz
    refine pyNext_item na nb nc hz hTI hTO h1 h2 h3 p p2.isList p3.isList (x := u1) (y := u2) (u := u3) (by simpa using hu1) (by simpa using hu2) (by simpa using hu3) fun h' z' TO' h1' h2' h3' hT hsz hk => ?_
    refine ⟨_, rfl, wpAny_letOwnedTupleGo_zip (s := { s with heap := h' }) z' fun h2nd z2nd sb => ?_⟩
    have hT2 : h2nd.get? s.heap.objs.size = some { cls := .type "tuple", data := .seq #[u1, u2, u3] } := (sb.2 _ (Nat.ne_of_gt hzl)).trans hT
    have new : ObjOk X.prog X.w (upd H s.heap.objs.size (.tup [x, y, z])) h2nd s.heap.objs.size (.tup [x, y, z]) :=
      ⟨by show 3 ≤ sizeLine; decide, [u1, u2, u3], .cons ru1 (.cons ru2 (.cons ru3 .nil)), ⟨_, hT2, rfl, _, rfl⟩⟩
    have I1 : Inv X pins σ (upd H s.heap.objs.size (.tup [x, y, z])) { s with heap := h2nd } := by
      refine I.turnedNew (t' := s.toks) (ch := fp3 n) (fun d o hb q => ?_) hf (Nat.le_refl _) new
      obtain ⟨q1, q2, q3, q4, q5⟩ := fp3_out hb
      exact (sb.2 d q1).trans (hk d o q1 q2 q3 q4 q5 q)
    refine ⟨.ref s.heap.objs.size, _, I1, rfl, ⟨_, x, y, z, rfl, I.hok.fresh (Nat.le_refl _), rfl, fun l hl => by rw [I.tuple_inj hl hqx]; exact hx, fun l hl => by rw [I.list_inj hl hqy]; exact hy, fun l hl => by rw [I.list_inj hl hqz]; exact hzz⟩,
      ⟨z2nd, ?_, ⟨u1, u2, u3, ?_⟩, ?_, ?_, ?_⟩, fun d hd => ?_⟩
    · exact (sb.2 _ (ad (by omega))).trans (hk _ _ (ad (by omega)) (ad (by omega)) (ad (by omega)) (ad (by omega)) (ad (by omega)) hTI)
    · exact (sb.2 _ (ad (by omega))).trans TO'
    · exact h1'.at fun o q => (sb.2 _ (ad (by omega))).trans q
    · exact h2'.at fun o q => (sb.2 _ (ad (by omega))).trans q
    · exact h3'.at fun o q => (sb.2 _ (ad (by omega))).trans q
    · have hlt : d < s.heap.objs.size := by
        exact Nat.lt_of_le_of_lt (fp3_le hd).2 hzl
      rw [upd_ne (Nat.ne_of_lt hlt)]; exact (hf d hd).1
  done := by
    intro X hP hw hK hc i pins s σ H E I hf st hg; subst hP hw hK
    obtain ⟨hz, hTI, ⟨x0, y0, z0, hTO⟩, h1, h2, h3⟩ := st
    obtain ⟨xs, hqx, hend⟩ := hg
    obtain ⟨its, rv, p, _⟩ := I.tuple hqx; have len := rv.length
    have he : its.toArray[i]? = none := by simp; omega
    refine pyNext_end (I.ok.hd hc) na hz hTI h1 p he fun h' hk => ⟨rfl, I.turnedL (t' := s.toks) (ch := fp3 n) (fun d o hb q => ?_) hf⟩
    obtain ⟨q1, q2, q3, q4, q5⟩ := fp3_out hb
    exact hk d o q1 q3 q
  self := fun A' i' s' Q' E' st h => wpAny_pyIter_zip st.1 h
def iZip3 (K : PySem.W.Frag) (ta : TA) : TI := fun σ H R => ta σ H fun vs H1 => ∃ a b c xs ys zs, vs = [.ref a, .ref b, .ref c] ∧ SqT K H1 a xs ∧ SqL K H1 b ys ∧ SqL K H1 c zs ∧ R (It3 K a b c) H1
theorem pi_zip3 {X : Cx} {e e2 e3 : Expr} {ta : TA} {p pos tpos : Pos} {elts : List Expr} {kk : Nat} (hg : Gl X "zip") (hm : X.mg "zip" = none) (ha : PA X [e, e2, e3] ta)
    (hs : starEach [e, e2, e3] X.env = (false, eval e X.env) :: starEach [e2, e3] X.env := by rfl) (hpl : (backTo pos (starEach [e2, e3] X.env)).any (·.1) = false := by rfl) :
    PI X (.Tuple elts kk tpos) (.Call (.Name "zip" p) [e, e2, e3] [] pos) (iZip3 X.K ta) := by
  refine ⟨fun pins s σ H R I h => ?_⟩; refine Call_ (ld_blt I hg hm PyProof.Rows.boot_zip (PyProof.Rows.callWith_type1 (thn (ha.run pos pins s σ H _ I h) fun us s1 ⟨vs, H1, I1, r1, q1⟩ => ?_) hs hpl))
  obtain ⟨a, b, c, xs, ys, zs, ex, hqx, hqy, hqz, q⟩ := q1
  subst ex
  cases r1 with
  | cons r rr =>
    cases rr with
    | cons r' rr =>
      cases rr with
      | cons r'' rr =>
        cases rr
        cases r
        cases r'
        cases r''
        obtain ⟨its, rv, p1, _⟩ := I1.tuple hqx
        obtain ⟨its2, rv2, p2, _⟩ := I1.list hqy; obtain ⟨its3, rv3, p3, _⟩ := I1.list hqz
        obtain ⟨o1, ho1, _⟩ := id p1
        refine call3 p1 p2.isList p3.isList fun n h' en hz hTI hTO h1 h2 h3 hk => ?_
        have I2 : Inv X pins σ H1 { s1 with heap := h' } := L2.Inv.kept (t' := s1.toks) I1 hk
        have fresh : ∀ d, d ∈ fp3 n → FpOk X pins H1 d := fun d hd => by
          have hle : s1.heap.objs.size ≤ d := by
            rw [← en]
            exact (fp3_le hd).1
          refine I1.fpOk hle (I1.hok.fresh hle)
        refine wpAny_pyIter_zip hz ⟨n + 5, fp3 n, _, _, H1, rfl, I2, turn3 (n := n) ?_ ?_ ?_, ⟨hz, hTI, ⟨_, _, _, hTO⟩, h1, h2, h3⟩, fresh, q⟩
        · rw [en]; exact Heap.lt_size ho1
        · rw [en]; exact p2.lt
        · rw [en]; exact p3.lt
/-- the loop over it, the three of one length -/
theorem for_zip3 {K : PySem.W.Frag} {a b c : Addr} {xs ys zs : List V} {g : TG} {tb : TS} {D : Ends} {σ : L2.St} {H : Hp} (l1 : xs.length = ys.length) (l2 : xs.length = zs.length) (Pv : Nat → L2.St → Hp → Prop) (h0 : Pv 0 σ H)
    (hq : ∀ i σ H, Pv i σ H → SqT K H a xs ∧ SqL K H b ys ∧ SqL K H c zs)
    (hs : ∀ (i : Nat) (x y z : V) (T : Addr) (σ : L2.St) (H : Hp), xs[i]? = some x → ys[i]? = some y → zs[i]? = some z → Pv i σ H → H T = none → g (.ref T) σ (upd H T (.tup [x, y, z])) fun σ2 H2 => tb { D with nx := Pv (i + 1), ct := Pv (i + 1), bk := D.nx } σ2 H2) (hd : ∀ σ H, Pv xs.length σ H → D.nx σ H) : ∃ W : Nat → Nat → L2.St → Hp → Prop, (∃ m, W 0 m σ H) ∧ ∀ i m σ H, W i m σ H →
      ((It3 K a b c).stop i H ∧ D.nx σ H) ∨ ((It3 K a b c).go i H ∧ ∃ N : L2.St → Hp → Prop, (∀ σ' H', N σ' H' → ∃ m', m' < m ∧ W (i + 1) m' σ' H') ∧ ∀ v H', (It3 K a b c).yld i H v H' → g v σ H' fun σ2 H2 => tb { D with nx := N, ct := N, bk := D.nx } σ2 H2) := by
  refine ⟨fun i m σ H => m = xs.length - i ∧ i ≤ xs.length ∧ Pv i σ H, ⟨xs.length, rfl, Nat.zero_le _, h0⟩, ?_⟩; rintro i m σ H ⟨rfl, hi, p⟩
  obtain ⟨qx, qy, qz⟩ := hq i σ H p
  by_cases hlt : i < xs.length
  · have hx : xs[i]? = some xs[i] := List.getElem?_eq_getElem hlt; have hy : ys[i]? = some ys[i] := List.getElem?_eq_getElem (by omega)
    have hz : zs[i]? = some zs[i] := List.getElem?_eq_getElem (by omega)
    refine .inr ⟨⟨xs, ys, zs, _, _, _, qx, qy, qz, hx, hy, hz⟩, Pv (i + 1), fun σ' H' p' => ⟨xs.length - (i + 1), by omega, rfl, hlt, p'⟩, ?_⟩
    rintro v H' ⟨T, x, y, z, rfl, hT, rfl, ex, ey, ez⟩
    exact hs i x y z T σ H (ex xs qx) (ey ys qy) (ez zs qz) p hT
  · have e : i = xs.length := (by omega)
    subst e
    exact .inl ⟨⟨xs, qx, Nat.le_refl _⟩, hd σ H p⟩
end KZ
namespace KB
open PySem L2 PySem.Spec PyProof.Rows
abbrev Any : Addr → Prop := fun _ => True
theorem Dt.any {F : Addr → Prop} {H : Hp} {v : V} {d : PyData} (h : Dt F H v d) : Dt Any H v d := h.move fun _ _ _ e => ⟨trivial, e⟩
theorem Dt.sm {H H' : Hp} {v : V} {d : PyData} (h : Dt Any H v d) (k : Same H H') : Dt Any H' v d := h.move fun a o _ e => ⟨trivial, k a o e⟩
theorem DtA.sm {H H' : Hp} {v : List V} {d : List PyData} (h : DtA Any H v d) (k : Same H H') : DtA Any H' v d := h.move fun a o _ e => ⟨trivial, k a o e⟩
/-- same(x, y), both of them the data d -/
def spSame : Sp := fun vs H Q _ => ∃ (x y : V) (d : PyData), vs = [x, y] ∧ Dt Any H x d ∧ Dt Any H y d ∧ Gd 60 10000 d ∧ Q (.bl true) H
end KB
namespace K1
open PySem PySem.Spec PyProof.Rows L2 KB KZ
section
variable {K : PySem.W.Frag} {mg : Str → Option Value} {base : Heap} {P : Program} {w : World}
abbrev nSame : List Str := ["_law_one", "_law_two"]
theorem scSame : FnScope nSame nSame (defScope (top 32)) := ⟨rfl, rfl, rfl, by decide +kernel, rfl, by decide +kernel, by decide +kernel⟩
theorem ok_same {f : Addr} {fd : FuncData} (F : FnP K "_law_same" (top 32) f fd) (T : Top K mg) : FnG P w K mg base 1 f fd nSame spSame := by
  refine okG F scSame (fun vs H Q h => ?_) (fun cdv A outer s H vs Q hgd hr h => ?_)
  · obtain ⟨x, y, d, rfl, _⟩ := h
    rfl
  · obtain ⟨x, y, d, rfl, dx, dy, gd, q⟩ := h
    have sc := scSame
    refine ⟨_, (pss_one (ps_ret (pe_cmpR op_eq (pe_callB (call_repr T.sys hgd hr) (by rfl) T.bl.repr (by decide +kernel) (pa_cons (pv 0) pa_nil)) (pe_callB (call_repr T.sys hgd hr) (by rfl) T.bl.repr (by decide +kernel) (pa_cons (pv 1) pa_nil)) (nomark _)))), ?_⟩
    have ln : d.shown.length ≤ sizeLine := Nat.le_trans gd.ln (by decide)
    refine ⟨_, rfl, _, x, d, rfl, dx, gd.sh, gd.dp, ln, _, rfl, _, y, d, rfl, dy, gd.sh, gd.dp, ln, rfl, ?_⟩
    have e : decide (V.str d.shown = V.str d.shown) = true := decide_eq_true rfl
    show Q (.bl (decide (V.str d.shown = V.str d.shown))) H
    rw [e]
    exact q
end
end K1
namespace K1
open PySem PySem.Spec PyProof.Rows L2 KB KZ
section
variable (P : Program) (w : World) (K : PySem.W.Frag) (mg : Str → Option Value) (base : Heap)
/-- a def of the law that keeps its promise -/
def Has (x : Str) (i : Nat) (ps : List Str) (k : Nat) (sp : Sp) : Prop := ∃ (f : Addr) (fd : FuncData), FnP K x (top i) f fd ∧ mg x = some (.ref f) ∧ Binds K fd ps [] ∧ FnOk P w K mg base CX0 k f fd ps sp
def HasG (x : Str) (i : Nat) (ps : List Str) (k : Nat) (sp : Sp) : Prop := ∃ (f : Addr) (fd : FuncData), FnP K x (top i) f fd ∧ mg x = some (.ref f) ∧ Binds K fd ps [] ∧ FnG P w K mg base k f fd ps sp
end
def spRight : Sp := fun vs H Q _ => ∃ (w : Addr) (n c : Int), vs = [.ref w, .int n] ∧ 0 ≤ n ∧ n < 26 ∧ Wl H w c ∧ c + 200 < 2 ^ 60 ∧ ∀ (c' : Int) (H' : Hp), Kw w H H' → Wl H' w c' → c' ≤ c + 200 → Q (.bl true) H'
/-- an error beside what is due -/
def Trio (K : PySem.W.Frag) (H : Hp) (x y z : V) : Prop := ∃ (k : Int) (e t : Addr) (p q : V) (dp dq : PyData), x = .int k ∧ y = .ref e ∧ z = .ref t ∧ 0 ≤ k ∧ k < 26 ∧ Exv H e (He.ga K (nmZ k)) (fv k p q) ∧ H t = some (.tup [p, q]) ∧ Dt Any H p dp ∧ Dt Any H q dq ∧ Gd 5 600 dp ∧ Gd 5 600 dq
theorem Trio.sm {K : PySem.W.Frag} {H H' : Hp} {x y z : V} (h : Trio K H x y z) (k : Same H H') : Trio K H' x y z := by
  obtain ⟨n, e, t, p, q, dp, dq, h1, h2, h3, h4, h5, h6, h7, h8, h9, h10, h11⟩ := h
  exact ⟨n, e, t, p, q, dp, dq, h1, h2, h3, h4, h5, h6.same k, k _ _ h7, h8.sm k, h9.sm k, h10, h11⟩
section
variable {K : PySem.W.Frag} {mg : Str → Option Value} {base : Heap} {P : Program} {w : World}
theorem all2 {n L : Nat} {a b : PyData} (h1 : Gd n L a) (h2 : Gd n L b) : ∀ d ∈ [a, b], Gd n L d := fun d hd => by
  rcases List.mem_cons.mp hd with h | h
  · rw [h]
    exact h1
  · rw [List.mem_singleton.mp h]
    exact h2
theorem kv_one {n : Int} {x y : V} (h0 : 0 ≤ n) (h1 : n < 26) (a : n ≠ 19) (b : n ≠ 25) : kv n x y = [x] := by
  rcases fvK x y h0 h1 with ⟨_, _, _, e⟩ | ⟨_, _, _, e⟩ | ⟨_, _, _, e⟩ | ⟨c, _⟩ | ⟨_, _, _, e⟩ | ⟨_, _, _, e⟩ | ⟨c, _⟩
  · exact e
  · exact e
  · exact e
  · exact absurd c a
  · exact e
  · exact e
  · exact absurd c b
abbrev nRight : List Str := ["_law_well_here", "_law_first", "_law_second", "_law_one", "_law_two", "_law_three", "_law_four", "_law_errors", "_law_due", "_law_number", "_law_error", "_law_here", "_law_there", "_law_many"]
theorem scRight : FnScope nRight ["_law_well_here", "_law_first"] (defScope (top 42)) := ⟨rfl, rfl, rfl, by decide +kernel, rfl, by decide +kernel, by decide +kernel⟩
theorem ok_right {f : Addr} {fd : FuncData} (F : FnP K "_law_are_right" (top 42) f fd) (T : Top K mg) (hD : Has P w K mg base "_law_draw" 30 ["_law_well_here", "_law_many"] 1 spDraw) (hT2 : Has P w K mg base "_law_thing" 34 ["_law_well_here", "_law_deep"] 6 (spThing 2))
    (hT1 : Has P w K mg base "_law_thing" 34 ["_law_well_here", "_law_deep"] 5 (spThing 1)) (hP : Has P w K mg base "_law_by_place" 35 nBy 4 (spBy K 0)) (hN : Has P w K mg base "_law_by_name" 37 nBy 4 (spBy K 0))
    (hI : Has P w K mg base "_law_is_of" 41 ["_law_number", "_law_error"] 2 (spIsOf K)) (hK : Has P w K mg base "_law_kept" 39 nKept 1 (spKept K)) (hS : HasG P w K mg base "_law_same" 32 nSame 1 spSame) :
    FnG P w K mg base 7 f fd ["_law_well_here", "_law_first"] spRight := by
  obtain ⟨fD, fdD, FD, gD, bD, GD⟩ := hD
  obtain ⟨fT, fdT, FT, gT, bT, GT2⟩ := hT2
  obtain ⟨fT1, fdT1, FT1, gT1, bT1, GT1⟩ := hT1
  obtain ⟨fP, fdP, FP, gP, bP, GP⟩ := hP
  obtain ⟨fN, fdN, FN, gN, bN, GN⟩ := hN
  obtain ⟨fI, fdI, FI, gI, bI, GI⟩ := hI
  obtain ⟨fK, fdK, FK, gK, bK, GK⟩ := hK
  obtain ⟨fS, fdS, FS, gS, bS, GS⟩ := hS
  refine okG F scRight (fun vs H Q h => ?_) (fun cdv A outer s H vs Q hgd hr h => ?_)
  · obtain ⟨w, n, c, rfl, _⟩ := h
    rfl
  · obtain ⟨w, n, c, rfl, n0, n1, hw, hc, q⟩ := h
    have sc := scRight
    have hrD : Room 1 _ := hr.mono (by decide)
    have hrT2 : Room 6 _ := hr
    have hrT1 : Room 5 _ := hr.mono (by decide)
    have hrP : Room 4 _ := hr.mono (by decide)
    have hrN : Room 4 _ := hr.mono (by decide)
    have hrI : Room 2 _ := hr.mono (by decide)
    have hrK : Room 1 _ := hr.mono (by decide)
    have hrS : Room 1 _ := hr.mono (by decide)
    refine ⟨_, (pss_cons (ps_set (i := 2) sc.nd rfl (Or.inl rfl) (pe_call GD hrD rfl gD FD.kp bD .nil pass0 (pa_cons (pv 0) (pa_cons pe_int pa_nil)))) (pss_cons (ps_par (i := 3) (j := 4) (by rfl) sc.nd rfl rfl (by decide) rfl rfl (pa_cons (pe_call GT2 hrT2 rfl gT FT.kp bT .nil pass0 (pa_cons (pv 0) (pa_cons pe_int pa_nil))) (pa_cons (pe_call GT2 hrT2 rfl gT FT.kp bT .nil pass0 (pa_cons (pv 0) (pa_cons pe_int pa_nil))) pa_nil)) (by rfl)) (pss_cons (ps_par (i := 5) (j := 6) (by rfl) sc.nd rfl rfl (by decide) rfl rfl (pa_cons (pe_call GT2 hrT2 rfl gT FT.kp bT .nil pass0 (pa_cons (pv 0) (pa_cons pe_int pa_nil))) (pa_cons (pe_call GT1 hrT1 rfl gT1 FT1.kp bT1 .nil pass0 (pa_cons (pv 0) (pa_cons pe_int pa_nil))) pa_nil)) (by rfl)) (pss_cons (ps_set (i := 7) sc.nd rfl (Or.inl rfl) (pe_lst (pa_cons (pe_call GP hrP rfl gP FP.kp bP .nil pass0 (pa_cons (pv 1) (pa_cons (pv 3) (pa_cons (pv 4) pa_nil)))) (pa_cons (pe_call GN hrN rfl gN FN.kp bN .nil pass0 (pa_cons (pv 2) (pa_cons (pv 5) (pa_cons (pv 6) pa_nil)))) (pa_cons (pe_call GN hrN rfl gN FN.kp bN .nil pass0 (pa_cons (pv 1) (pa_cons (pv 6) (pa_cons (pv 5) pa_nil)))) pa_nil))))) (pss_cons (ps_set (i := 8) sc.nd rfl (Or.inl rfl) (pe_lst (pa_cons (pe_tup (pa_cons (pv 3) (pa_cons (pv 4) pa_nil))) (pa_cons (pe_tup (pa_cons (pv 5) (pa_cons (pv 6) pa_nil))) (pa_cons (pe_tup (pa_cons (pv 6) (pa_cons (pv 5) pa_nil))) pa_nil))))) (pss_cons (ps_for PassesOwn.never rfl (pi_zip3 rfl T.bl.zip (pa_cons (pe_tup (pa_cons (pv 1) (pa_cons (pv 2) (pa_cons (pv 1) pa_nil)))) (pa_cons (pv 7) (pa_cons (pv 8) pa_nil)))) (pg_tup rfl (pgs_cons (pg_name (i := 9) sc.nd rfl (Or.inl rfl)) (pgs_cons (pg_name (i := 10) sc.nd rfl (Or.inl rfl)) (pgs_cons (pg_tup rfl (pgs_cons (pg_name (i := 11) sc.nd rfl (Or.inl rfl)) (pgs_cons (pg_name (i := 12) sc.nd rfl (Or.inl rfl)) pgs_nil))) pgs_nil)))) (pss_cons (ps_set (i := 13) sc.nd rfl (Or.inl rfl) (pe_ifExp (pt_cmpR op_eq (pv 9) pe_int (nomark _)) pe_int (pe_ifExp (pt_cmpR op_eq (pv 9) pe_int (nomark _)) pe_int pe_int))) (pss_one (ps_if (PW.pt (pw_or (pt_not (pt_val (pe_call GI hrI rfl gI FI.kp bI .nil pass0 (pa_cons (pv 9) (pa_cons (pv 10) pa_nil))))) (pw_or1 (pt_not (pt_val (pe_callG GS hgd hrS rfl gS FS.kp bS .nil (pa_cons (pe_call GK hrK rfl gK FK.kp bK .nil pass0 (pa_cons (pv 9) (pa_cons (pv 10) pa_nil))) (pa_cons (pe_slice sl_list (pe_lst (pa_cons (pv 11) (pa_cons (pv 12) pa_nil))) po_none (po_some (pv 13))) pa_nil)))))))) (pss_one (ps_ret pe_bl)) pss_nil)))) (pss_one (ps_ret pe_bl)))))))), ?_⟩
    have t1 : TT 1 = 8 := rfl
    have t2 : TT 2 = 26 := rfl
    refine ⟨_, rfl, w, 26, c, rfl, hw, by omega, by decide, by decide, fun r c1 H1 r0 r1 k1 w1 e1 => ?_⟩
    refine ⟨_, rfl, w, c1, rfl, w1, by omega, fun v1 d1 c2 H2 x1 gd1 k2 w2 e2 => ?_⟩
    refine ⟨_, rfl, w, c2, rfl, w2, by omega, fun v2 d2 c3 H3 x2 gd2 k3 w3 e3 => ⟨v1, v2, rfl, ?_⟩⟩
    refine ⟨_, rfl, w, c3, rfl, w3, by omega, fun v3 d3 c4 H4 x3 gd3 k4 w4 e4 => ?_⟩
    refine ⟨_, rfl, w, c4, rfl, w4, by omega, fun v4 d4 c5 H5 x4 gd4 k5 w5 e5 => ⟨v3, v4, rfl, ?_⟩⟩
    have y1 : Dt Any H5 v1 d1 := (((k3.trans (k4.trans k5)).data w1.some x1)).any
    have y2 : Dt Any H5 v2 d2 := ((k4.trans k5).data w2.some x2).any
    have y3 : Dt Any H5 v3 d3 := (k5.data w3.some x3).any
    have y4 : Dt Any H5 v4 d4 := x4.any
    have kk : Kw w H H5 := k1.trans (k2.trans (k3.trans (k4.trans k5)))
    -- the errors
    refine ⟨_, rfl, _, rfl, _, rfl, n, v1, v2, rfl, n0, n1, fun a1 H6 m1 s6 z1 => ?_⟩
    refine ⟨_, rfl, _, rfl, _, rfl, r, v3, v4, rfl, r0, r1, fun a2 H7 m2 s7 z2 => ?_⟩
    refine ⟨_, rfl, _, rfl, _, rfl, n, v4, v3, rfl, n0, n1, fun a3 H8 m3 s8 z3 => ?_⟩
    refine ⟨(by show (3 : Nat) ≤ sizeLine; decide), fun pe ne => ?_⟩
    have s9 : Same H8 (upd H8 pe (.lst [.ref a1, .ref a2, .ref a3])) := Same.new ne
    refine ⟨_, rfl, _, rfl, (by show (2 : Nat) ≤ sizeLine; decide), fun u1 j1 => ?_⟩
    have s10 := @Same.new u1 _ (.tup [v1, v2]) j1
    refine ⟨_, rfl, _, rfl, (by show (2 : Nat) ≤ sizeLine; decide), fun u2 j2 => ?_⟩
    have s11 := @Same.new u2 _ (.tup [v3, v4]) j2
    refine ⟨_, rfl, _, rfl, (by show (2 : Nat) ≤ sizeLine; decide), fun u3 j3 => ?_⟩
    have s12 := @Same.new u3 _ (.tup [v4, v3]) j3
    refine ⟨(by show (3 : Nat) ≤ sizeLine; decide), fun pd nd => ?_⟩
    have s13 := @Same.new pd _ (.lst [.ref u1, .ref u2, .ref u3]) nd
    refine ⟨_, rfl, _, rfl, _, rfl, (by show (3 : Nat) ≤ sizeLine; decide), fun tt nt => ?_⟩
    have s14 := @Same.new tt _ (.tup [.int n, .int r, .int n]) nt
    refine ⟨_, rfl, _, rfl, ?_⟩
    have s5 := s6.trans (s7.trans (s8.trans (s9.trans (s10.trans (s11.trans (s12.trans (s13.trans s14)))))))
    refine ⟨tt, pe, pd, _, _, _, rfl, SqT.of upd_same, SqL.of ((s10.trans (s11.trans (s12.trans (s13.trans s14)))) pe _ upd_same), SqL.of (s14 pd _ upd_same), ?_⟩
    have row : ∀ (i : Nat) (x y z : V), [V.int n, V.int r, V.int n][i]? = some x → [V.ref a1, V.ref a2, V.ref a3][i]? = some y → [V.ref u1, V.ref u2, V.ref u3][i]? = some z → Trio K (upd (upd (upd (upd (upd (upd H8 pe (.lst [.ref a1, .ref a2, .ref a3])) u1 (.tup [v1, v2])) u2 (.tup [v3, v4])) u3 (.tup [v4, v3])) pd (.lst [.ref u1, .ref u2, .ref u3])) tt (.tup [.int n, .int r, .int n])) x y z := by
      intro i x y z e1 e2 e3
      match i, e1, e2, e3 with
      | 0, e1, e2, e3 =>
        cases e1; cases e2; cases e3
        exact ⟨n, a1, u1, v1, v2, d1, d2, rfl, rfl, rfl, n0, n1, z1.same (s7.trans (s8.trans (s9.trans (s10.trans (s11.trans (s12.trans (s13.trans s14))))))), (s11.trans (s12.trans (s13.trans s14))) u1 _ upd_same, y1.sm s5, y2.sm s5, gd1.mono (by decide) (by decide), gd2.mono (by decide) (by decide)⟩
      | 1, e1, e2, e3 =>
        cases e1; cases e2; cases e3
        exact ⟨r, a2, u2, v3, v4, d3, d4, rfl, rfl, rfl, r0, r1, z2.same (s8.trans (s9.trans (s10.trans (s11.trans (s12.trans (s13.trans s14)))))), (s12.trans (s13.trans s14)) u2 _ upd_same, y3.sm s5, y4.sm s5, gd3.mono (by decide) (by decide), gd4.mono (by decide) (by decide)⟩
      | 2, e1, e2, e3 =>
        cases e1; cases e2; cases e3
        exact ⟨n, a3, u3, v4, v3, d4, d3, rfl, rfl, rfl, n0, n1, z3.same (s9.trans (s10.trans (s11.trans (s12.trans (s13.trans s14))))), (s13.trans s14) u3 _ upd_same, y4.sm s5, y3.sm s5, gd4.mono (by decide) (by decide), gd3.mono (by decide) (by decide)⟩
      | i + 3, e1, _, _ => simp at e1
    refine for_zip3 (K := K) (a := tt) (b := pe) (c := pd) (xs := [V.int n, V.int r, V.int n]) (ys := [V.ref a1, V.ref a2, V.ref a3]) (zs := [V.ref u1, V.ref u2, V.ref u3]) rfl rfl (fun i σ HA => ∃ o9 o10 o11 o12 o13 : Option V,
      σ = [some (.ref w), some (.int n), some (.int r), some v1, some v2, some v3, some v4, some (.ref pe), some (.ref pd), o9, o10, o11, o12, o13] ∧ Same (upd (upd (upd (upd (upd (upd H8 pe (.lst [.ref a1, .ref a2, .ref a3])) u1 (.tup [v1, v2])) u2 (.tup [v3, v4])) u3 (.tup [v4, v3])) pd (.lst [.ref u1, .ref u2, .ref u3])) tt (.tup [.int n, .int r, .int n])) HA) ⟨none, none, none, none, none, rfl, Same.refl _⟩ ?_ ?_ ?_
    · rintro i σ HA ⟨_, _, _, _, _, _, sm⟩
      exact ⟨SqT.of (sm _ _ upd_same), SqL.of (sm _ _ ((s10.trans (s11.trans (s12.trans (s13.trans s14)))) pe _ upd_same)), SqL.of (sm _ _ (s14 pd _ upd_same))⟩
    · rintro i x y z TA σ HA ex ey ez ⟨o9, o10, o11, o12, o13, rfl, sm⟩ nTA
      obtain ⟨k, e, t, p, q', dp, dq, rfl, rfl, rfl, kz0, kz1, hE, hT, hp, hq, gp, gq⟩ := (row i x y z ex ey ez).sm (sm.trans (Same.new (o := .tup [x, y, z]) nTA))
      refine ⟨TA, _, rfl, SqT.of upd_same, rfl, _, _, rfl, _, _, rfl, _, _, rfl, t, _, rfl, SqT.of hT, rfl, _, _, rfl, _, _, rfl, rfl, rfl, ?_⟩
      refine ⟨_, rfl, rfl, _, rfl, ite2 (fun g => ?_) (fun g => ?_)⟩
      · have c : k = 19 := eqI g
        refine ⟨_, rfl, _, rfl, k, e, _, rfl, kz0, kz1, hE, fun HC sC => ⟨_, rfl, iteF ?_⟩⟩
        refine ⟨_, rfl, _, rfl, k, e, p, q', rfl, kz0, kz1, hE.same sC, fun pk nk => ?_⟩
        refine ⟨_, rfl, _, rfl, (by show (2 : Nat) ≤ sizeLine; decide), fun pl nl => ?_⟩
        refine ⟨_, rfl, _, rfl, pl, _, rfl, SqL.of upd_same, fun pz nz => ?_⟩
        have sD := sC.trans ((@Same.new pk _ (.lst (kv k p q')) nk).trans ((@Same.new pl _ (.lst [p, q']) nl).trans (@Same.new pz _ (.lst (cutV [p, q'] none (some 2))) nz)))
        have at1 := ((@Same.new pl _ (.lst [p, q']) nl).trans (@Same.new pz _ (.lst (cutV [p, q'] none (some 2))) nz)) pk (.lst (kv k p q')) upd_same
        have at2 := at1.trans (congrArg (fun l => some (HO.lst l)) (show kv k p q' = [p, q'] by rw [c]; rfl))
        have gl : Gd 60 10000 (.list [dp, dq]) := (gd_lst (n := 5) (L := 600) (m := 2) (all2 gp gq) (Nat.le_refl 2)).mono (by decide) (by decide)
        refine ⟨_, _, .list [dp, dq], rfl, .lst trivial at2 (.cons (hp.sm sD) (.cons (hq.sm sD) .nil)), .lst trivial upd_same (.cons (hp.sm sD) (.cons (hq.sm sD) .nil)), gl, ⟨_, rfl, iteF ?_⟩⟩
        exact ⟨_, _, _, _, _, rfl, sm.trans ((@Same.new TA _ (.tup [.int k, .ref e, .ref t]) nTA).trans sD)⟩
      · have c : k ≠ 19 := neI g
        refine ⟨_, rfl, rfl, _, rfl, ite2 (fun g2 => ?_) (fun g2 => ?_)⟩
        · have c2 : k = 25 := eqI g2
          refine ⟨_, rfl, _, rfl, k, e, _, rfl, kz0, kz1, hE, fun HC sC => ⟨_, rfl, iteF ?_⟩⟩
          refine ⟨_, rfl, _, rfl, k, e, p, q', rfl, kz0, kz1, hE.same sC, fun pk nk => ?_⟩
          refine ⟨_, rfl, _, rfl, (by show (2 : Nat) ≤ sizeLine; decide), fun pl nl => ?_⟩
          refine ⟨_, rfl, _, rfl, pl, _, rfl, SqL.of upd_same, fun pz nz => ?_⟩
          have sD := sC.trans ((@Same.new pk _ (.lst (kv k p q')) nk).trans ((@Same.new pl _ (.lst [p, q']) nl).trans (@Same.new pz _ (.lst (cutV [p, q'] none (some 0))) nz)))
          have at1 := ((@Same.new pl _ (.lst [p, q']) nl).trans (@Same.new pz _ (.lst (cutV [p, q'] none (some 0))) nz)) pk (.lst (kv k p q')) upd_same
          have at2 := at1.trans (congrArg (fun l => some (HO.lst l)) (show kv k p q' = [] by rw [c2]; rfl))
          have gl : Gd 60 10000 (.list []) := (gd_lst (n := 5) (L := 600) (m := 2) (fun d hd => (by cases hd)) (by decide)).mono (by decide) (by decide)
          refine ⟨_, _, .list [], rfl, .lst trivial at2 (.nil), .lst trivial upd_same (.nil), gl, ⟨_, rfl, iteF ?_⟩⟩
          exact ⟨_, _, _, _, _, rfl, sm.trans ((@Same.new TA _ (.tup [.int k, .ref e, .ref t]) nTA).trans sD)⟩
        · have c2 : k ≠ 25 := neI g2
          refine ⟨_, rfl, _, rfl, k, e, _, rfl, kz0, kz1, hE, fun HC sC => ⟨_, rfl, iteF ?_⟩⟩
          refine ⟨_, rfl, _, rfl, k, e, p, q', rfl, kz0, kz1, hE.same sC, fun pk nk => ?_⟩
          refine ⟨_, rfl, _, rfl, (by show (2 : Nat) ≤ sizeLine; decide), fun pl nl => ?_⟩
          refine ⟨_, rfl, _, rfl, pl, _, rfl, SqL.of upd_same, fun pz nz => ?_⟩
          have sD := sC.trans ((@Same.new pk _ (.lst (kv k p q')) nk).trans ((@Same.new pl _ (.lst [p, q']) nl).trans (@Same.new pz _ (.lst (cutV [p, q'] none (some 1))) nz)))
          have at1 := ((@Same.new pl _ (.lst [p, q']) nl).trans (@Same.new pz _ (.lst (cutV [p, q'] none (some 1))) nz)) pk (.lst (kv k p q')) upd_same
          have at2 := at1.trans (congrArg (fun l => some (HO.lst l)) (kv_one (y := q') (x := p) kz0 kz1 c c2))
          have gl : Gd 60 10000 (.list [dp]) := (gd_lst (n := 5) (L := 600) (m := 2) (fun d hd => (by rw [List.mem_singleton.mp hd]; exact gp)) (by show 1 ≤ 2; decide)).mono (by decide) (by decide)
          refine ⟨_, _, .list [dp], rfl, .lst trivial at2 (.cons (hp.sm sD) .nil), .lst trivial upd_same (.cons (hp.sm sD) .nil), gl, ⟨_, rfl, iteF ?_⟩⟩
          exact ⟨_, _, _, _, _, rfl, sm.trans ((@Same.new TA _ (.tup [.int k, .ref e, .ref t]) nTA).trans sD)⟩
    · rintro σ HA ⟨o9, o10, o11, o12, o13, rfl, sm⟩
      exact q c5 HA (kk.trans (Kw.same (s5.trans sm))) (w5.same (s5.trans sm)) (by omega)
end
end K1
namespace KB
open PySem L2 PySem.Spec PyProof.Rows
/-! ### raise C(..) -/
def tMkN (C : Addr) (fs : List Str) (t : TA) : L2.St → Hp → XK → Prop := fun σ H Q => t σ H fun vs H1 => vs.length = fs.length ∧ ∀ d, H1 d = none → Q (.ref C) (some d) (upd H1 d (.xd (fs.zip vs).reverse))
section
variable {X : Cx} {x : Str} {C : Addr} {fs : List Str} {p pos : Pos} {e : Expr} {es : List Expr} {kws : List Keyword} {t : TA}
theorem run_mk {pins : List (Addr × Obj)} {σ : L2.St} {H : Hp} {s : Shared} {Q : XK} {us : List Value} {kw : List (Str × Value)} {all : List Value} {xs : List V} (E : ErrC X.prog X.w X.K X.mg X.base x C fs) (hr : Room 2 X.A) (I : Inv X pins σ H s) (r : Vals xs all)
    (hl : xs.length = fs.length) (hz : us.length ≤ sizeLine) (bnd : ∀ (fI : Addr) (fd : FuncData), Binds X.K fd (("self" : Str) :: fs) [] →
      (∀ (s : Shared) (u : Value) (ws : List Value), ws.length = fs.length → BindsTo s fd ⟨[u], fs.zip ws⟩ ((("self" : Str) :: fs).zip (u :: ws)) ∧ BindsTo s fd ⟨[u], fs.reverse.zip ws.reverse⟩ ((("self" : Str) :: fs).zip (u :: ws))) →
      ∀ (s : Shared) (u : Value), X.K.In s.heap → BindsTo s fd ⟨u :: us, kw⟩ ((("self" : Str) :: fs).zip (u :: all)))
    (h : ∀ d, H d = none → Q (.ref C) (some d) (upd H d (.xd (fs.zip xs).reverse))) : wpAny (model X.prog X.w) X.A (call (.ref C) us kw) (MkP X pins σ Q) X.xe s := by
  obtain ⟨nm, q, N, bs, bm, sn, sub, ab, col, dd, k0, k1, k2, k3, k5, hC, hbm⟩ := E.oex.cls
  obtain ⟨fI, fd, iC, tI, F1, b1, b2⟩ := E.ini
  obtain ⟨hp, g, dr, tk, os⟩ := s; have hsz : hp.objs.size ≤ hp.objs.size + 1 := Nat.le_succ _
  have hn : H (hp.objs.size + 1) = none := I.hok.fresh hsz
  have kk : ∀ b o, hp.get? b = some o → ((hp.push (PySem.W.kdv_tup us)).push (PySem.HandSPX.excO C hp.objs.size)).get? b = some o := by
    intro b o e; exact Heap.get?_push_of_some _ (Heap.get?_push_of_some _ e)
  have hget : ((hp.push (PySem.W.kdv_tup us)).push (PySem.HandSPX.excO C hp.objs.size)).get? (hp.objs.size + 1) = some (PySem.HandSPX.excO C hp.objs.size) := by
    heap_get
  have I2 : Inv X pins σ (upd H (hp.objs.size + 1) (exo (hp.objs.size + 1) C none)) ⟨(hp.push (PySem.W.kdv_tup us)).push (PySem.HandSPX.excO C hp.objs.size), g, dr, tk, os⟩ :=
    I.laid (t' := tk) (a := hp.objs.size + 1) kk hsz (exo_ok hget)
  have r2 : Vals (V.ref (hp.objs.size + 1) :: xs) (Value.ref (hp.objs.size + 1) :: all) := .cons rfl r
  have prom : spInit C fs (.ref (hp.objs.size + 1) :: xs) (upd H (hp.objs.size + 1) (exo (hp.objs.size + 1) C none)) (fun v H2 => v = .non ∧ ∃ d, H d = none ∧ d ≠ hp.objs.size + 1 ∧ H2 (hp.objs.size + 1) = some (exo (hp.objs.size + 1) C (some d)) ∧
      H2 d = some (exd d (fs.zip xs).reverse) ∧ ∀ b, b ≠ hp.objs.size + 1 → b ≠ d → H2 b = H b) E0 := by
    refine ⟨_, xs, rfl, hl, upd_same, fun dx H' n1 n2 g1 g2 g3 => ⟨rfl, dx, ?_, n2, g1, g2, fun b h1 h2 => ?_⟩⟩
    · rw [upd_ne n2] at n1
      exact n1
    · rw [g3 b h1 h2, upd_ne h1]
  refine wpAny_call (PySem.KX.call_kw F.excBase_ValueError (fun Y => PySem.HandSPX.refsVE_contains Y bm hbm) (I.kIn _ _ hC) (PySem.W.looks_findIn I.kIn iC) (fun self => PySem.W.bind_fn I.kIn self tI) hz
    (codeAny_mono (F1.run _ X.stack _ _ ⟨Value.ref (hp.objs.size + 1) :: us, kw⟩ (Value.ref (hp.objs.size + 1) :: all) _ _ E0 (hr.make C us kw) (I2.env0.make C us kw) (bnd fI fd b1 b2 _ _ I2.kIn) r2 prom) fun r s' hq => ?_))
  match r, hq with
  | .ok (.ret u), ⟨v, H2, os2, bare2, un2, hok2, rv, ev, d, hd1, dne, ea, ed, rest⟩ =>
    subst ev
    rcases s' with ⟨h2, g2, d2, t2, os'⟩
    have same : upd (del H2 (hp.objs.size + 1)) d (.xd (fs.zip xs).reverse) = upd H d (.xd (fs.zip xs).reverse) := by
      funext b
      by_cases h1 : b = d
      · rw [h1, upd_same, upd_same]
      · rw [upd_ne h1, upd_ne h1]
        by_cases h3 : b = hp.objs.size + 1
        · rw [h3, del_same, hn]
        · rw [del_ne h3, rest b h3 h1]
    refine ⟨rv, mk_end (raises_own E.oex.exC E.oex.tyC) I hsz kk un2 hok2 os2 bare2 ea ed hd1 ?_⟩
    rw [same]
    exact h d hd1
theorem pmk_new (E : ErrC X.prog X.w X.K X.mg X.base x C fs) (hr : Room 2 X.A) (hf : fs.length ≤ 100) (hg : Gl X x) (ha : PA X (e :: es) t) (hdb : (x == ("__debug__" : Str)) = false := by decide)
    (he : starEach (e :: es) X.env = (false, eval e X.env) :: starEach es X.env := by rfl) (hpl : (backTo pos (starEach es X.env)).any (·.1) = false := by rfl) : PMk X (.Call (.Name x p) (e :: es) [] pos) (tMkN C fs t) := by
  intro pins s σ H Q I h
  refine wpAny_Call_Name_kw (ld_glob I hg E.g ?_ hdb)
  refine PySem.W.callWith_K (h₀ := X.base) I.ok.mod.kin E.oex.kC (thn (ha.run pos pins s σ H _ I h) fun us s1 ⟨vs, H1, I1, r, hl, q⟩ => ⟨I1.kIn, ?_⟩) he hpl
  have hu : us.length = fs.length := r.length.symm.trans hl
  refine run_mk E hr I1 r hl (Nat.le_of_lt (small1000 (by show us.length ≤ 1000; omega))) (fun fI fd b1 _ s u X' => ?_) q
  have := b1 s (u :: us) X' (by rw [List.append_nil, List.length_cons, hu]; rfl)
  rw [List.append_nil] at this
  exact this
theorem pmk_newK (E : ErrC X.prog X.w X.K X.mg X.base x C fs) (hr : Room 2 X.A) (hg : Gl X x) (hkw : PK X kws t)
    (hall : (backToKw pos (keywordEach kws X.env)).all (·.1.isSome) = true := by rfl) (hks : (backToKw pos (keywordEach kws X.env)).filterMap (·.1) = fs := by rfl) (hdb : (x == ("__debug__" : Str)) = false := by decide)
    (hpl : ((backTo pos (starEach [] X.env)).any (·.1) || (backToKw pos (keywordEach kws X.env)).any (·.1.isNone)) = false := by rfl) : PMk X (.Call (.Name x p) [] kws pos) (tMkN C fs t) := by
  intro pins s σ H Q I h
  refine wpAny_Call_Name_kw (ld_glob I hg E.g ?_ hdb)
  refine PySem.W.callWith_KW0 (h₀ := X.base) I.ok.mod.kin E.oex.kC hall ?_ hpl
  refine thn (hkw.run pos pins s σ H _ I h) fun ws s2 ⟨zs, H2, I2, rz, hl, q⟩ => ⟨I2.kIn, ?_⟩
  rw [hks]
  exact run_mk (us := []) E hr I2 rz hl (Nat.zero_le _) (fun fI fd _ b2 s u _ => (b2 s u ws (rz.length.symm.trans hl)).1) q
end
/-! ### an exception that is held aside: its object p is pinned -/
theorem pin_inst {X : Cx} {pins : List (Addr × Obj)} {σ : L2.St} {H : Hp} {s : Shared} {p : Addr × Obj} {C dd : Addr} {fs : List (Str × V)} (I : Inv X pins σ H s) (hp : p ∈ X.pn) (hz : Zc (.ref C) (some dd) p.2) (hf : ∃ vs, p.2.data = .fields vs) (hd : H dd = some (.xd fs)) :
    ∃ od, PySem.W.InstAt s.heap p.1 p.2 C (some od) ∧ ∀ f v, fs.lookup f = some v → ∃ u, RelV v u ∧ PySem.W.lookIn f od = some (some u) := by
  obtain ⟨ha, _⟩ := I.pin p (List.mem_append_left _ hp)
  obtain ⟨vs, hv⟩ := hf
  obtain ⟨mA, hns, rel⟩ := (show ObjOk X.prog X.w H s.heap dd (.xd fs) from I.hok dd _ hd)
  rcases lookIn_ns hns with ⟨od, ho, hl⟩
  refine ⟨od, ⟨ha, hz.1, by unfold PySem.W.notCls; rw [hv] <;> rfl, by rw [hz.2]; exact ho⟩, fun f v q => ?_⟩
  obtain ⟨u, hu, ru⟩ := RelO.some_of (v := v) (o := mA f) (by rw [← q]; exact rel f)
  exact ⟨u, ru, by rw [hl, hu]⟩
def tGetP (K : PySem.W.Frag) (a : Addr) (cls : Value) (d : Option Addr) (f : Str) (te : TE) : TE := fun σ H Q => te σ H fun x H1 => x = .ref a ∧ ∃ (C dd : Addr) (fs : List (Str × V)) (v : V), cls = .ref C ∧ d = some dd ∧ H1 dd = some (.xd fs) ∧ XfC K C ∧ PySem.W.findIn K (.ref C) f = some none ∧ fs.lookup f = some v ∧ Q v H1
theorem pe_getP {X : Cx} {a : Addr} {oe : Obj} {cls : Value} {d : Option Addr} {e : Expr} {te : TE} {f : Str} {pos : Pos} (hp : (a, oe) ∈ X.pn) (hz : Zc cls d oe) (hf : ∃ vs, oe.data = .fields vs) (he : PE X e te)
    (hb : attributeBase e f X.env (eval e X.env) = eval e X.env := by rfl) : PE X (.Attribute e f pos) (tGetP X.K a cls d f te) := by
  refine ⟨fun pins s σ H Q I h => ?_⟩; refine attr_of hb (thn (he.run pins s σ H _ I h) fun u s1 hh => ?_)
  obtain ⟨x, H1, I1, rx, ex, C, dd, fs, v, ec, ed, hd, T, hno, l, q⟩ := hh
  subst ex ec ed
  obtain rfl : u = Value.ref a := rx; obtain ⟨od, J, look⟩ := pin_inst I1 hp hz hf hd
  obtain ⟨z, rz, hl⟩ := look f v l
  exact HandSPX.exc_get I1.kIn J T.ga T.gg T.exC (PySem.W.findObj_own T.hdC hno rfl hl) (handed_of rz) ⟨v, H1, I1.tok _, rz, q⟩
def rIsP (K : PySem.W.Frag) (a : Addr) (cls : Value) (d : Option Addr) : List V → Hp → VK → Prop := fun xs H Q => ∃ (C dd : Addr) (fs : List (Str × V)) (c : V) (u : Value) (b : Bool), xs = [.ref a, c] ∧ cls = .ref C ∧ d = some dd ∧ H dd = some (.xd fs) ∧ IsC K C ∧ ClsV c u ∧ PySem.W.kitOne K (.ref C) u = some b ∧ Q (.bl b) H
theorem call_isP {X : Cx} {a : Addr} {oe : Obj} {cls : Value} {d : Option Addr} (hp : (a, oe) ∈ X.pn) (hz : Zc cls d oe) (hf : ∃ vs, oe.data = .fields vs) : CallR X (.builtin "isinstance") (rIsP X.K a cls d) := by
  intro pins s σ H xs us Q I r h; obtain ⟨C, dd, fs, c, u, b, rfl, ec, ed, hd, ic, hc, e, q⟩ := h
  subst ec ed
  obtain ⟨u1, u2, rfl, r1, r2⟩ := vals2 r; cases (show u1 = Value.ref a from r1)
  have e2 := hc.eq r2
  subst e2
  obtain ⟨od, J, _⟩ := pin_inst I hp hz hf hd
  exact PySem.W.kia_one (kitx_exc ic) I.kIn J e (fun z => nomatch z) fun tk => ⟨.bl b, H, I.tok tk, rfl, q⟩
/-! #### a def called there, whatever is handled -/
abbrev SpW := Addr → Value → Option Addr → List V → Hp → VK → Prop
structure FnW (P : Program) (w : World) (K : PySem.W.Frag) (mg : Str → Option Value) (base : Heap) (k : Nat) (f : Addr) (fd : FuncData) (ps : List Str) (sp : SpW) : Prop where
  many : ∀ a cls d vs H Q, sp a cls d vs H Q → vs.length = ps.length
  go : ∀ (A : Around) (outer : List Env) (s : Shared) (H : Hp) (args : Args) (us : List Value) (vs : List V) (Q : VK) (p : Addr × Obj) (cls : Value) (d : Option Addr), L2H.RoomH k A → L2H.PinOk outer H s p → Zc cls d p.2 → (∃ xs, p.2.data = .fields xs) →
    Env0 P w K mg base A outer s H → BindsTo s fd args (ps.zip us) → Vals vs us → sp p.1 cls d vs H Q → codeAny (model P w) A (.call (.ref f) args) (fun r z => CR CX0 outer P w H s Q E0 r z) s
def tCallW (a : Addr) (cls : Value) (d : Option Addr) (sp : SpW) (t : TA) : TE := fun σ H Q => t σ H fun vs H1 => sp a cls d vs H1 Q
theorem pe_callW {X : Cx} {k : Nat} {f : Addr} {fd : FuncData} {ps : List Str} {sp : SpW} {a : Addr} {oe : Obj} {cls : Value} {d : Option Addr} {x : Str} {p pos : Pos} {e : Expr} {es : List Expr} {t : TA} (F : FnW X.prog X.w X.K X.mg X.base k f fd ps sp) (hr : L2H.RoomH k X.A)
    (hp : (a, oe) ∈ X.pn) (hz : Zc cls d oe) (hf : ∃ vs, oe.data = .fields vs) (hg : Gl X x) (hm : X.mg x = some (.ref f)) (hk : PySem.W.keepIn X.K (.ref f) = true) (hb : Binds X.K fd ps []) (ha : PA X (e :: es) t) (hdb : (x == ("__debug__" : Str)) = false := by decide) (he : starEach (e :: es) X.env = (false, eval e X.env) :: starEach es X.env := by rfl)
    (hpl : (backTo pos (starEach es X.env)).any (·.1) = false := by rfl) : PE X (.Call (.Name x p) (e :: es) [] pos) (tCallW a cls d sp t) := by
  refine ⟨fun pins s σ H Q I h => ?_⟩; refine wpAny_Call_Name_kw (ld_glob I hg hm ?_ hdb)
  refine PySem.W.callWith_K (h₀ := X.base) I.ok.mod.kin hk (thn (ha.run pos pins s σ H _ I h) fun us s1 ⟨vs, H1, I1, r, q⟩ => ⟨I1.kIn, ?_⟩) he hpl; have hl : us.length = ps.length := r.length.symm.trans (F.many _ _ _ _ _ _ q)
  have b := hb s1 us I1.kIn (by rw [List.append_nil]; exact hl)
  rw [List.append_nil] at b
  obtain ⟨p1, p2, p3, p4, p5⟩ := I1.pin (a, oe) (List.mem_append_left _ hp)
  have pin : L2H.PinOk X.stack H1 s1 (a, oe) := ⟨p1, p2, fun hm => (List.mem_cons.mp (I1.stkSub a hm)).elim p3 p4, p5⟩
  refine wpAny_call (codeAny_mono (F.go X.A X.stack s1 H1 ⟨us, []⟩ us vs Q (a, oe) cls d hr pin hz hf I1.env0 b r q) fun r z hq => ?_)
  match r, hq with
  | .ok (.ret u), hq => exact I1.after hq
theorem okW {P : Program} {w : World} {K : PySem.W.Frag} {mg : Str → Option Value} {base : Heap} {x qual : Str} {params : Arguments} {body : List Stmt} {scope : Scope} {dvs : List V} {kws : List (Str × V)}
    {f : Addr} {fd : FuncData} {N ps : List Str} {k : Nat} {sp : SpW} (F : FunD K x qual params body scope dvs kws f fd) (S : FnScope N ps scope)
    (many : ∀ a cls d vs H Q, sp a cls d vs H Q → vs.length = ps.length)
    (hbody : ∀ (cdv : Value) (A : Around) (outer : List Env) (s : Shared) (H : Hp) (vs : List V) (Q : VK) (a : Addr) (oe : Obj) (cls : Value) (d : Option Addr), Zc cls d oe → (∃ xs, oe.data = .fields xs) →
      L2H.RoomH k (A.deeper (envOfC qual scope s.heap.objs.size f cdv)) → sp a cls d vs H Q →
      ∃ t, PSs (L2H.cxH CX0 P w K mg base N qual scope f cdv A outer s H E0 (a, oe)).nox body t ∧ t { nx := fun _ H' => Q .non H', rt := Q } (start N vs) H) :
    FnW P w K mg base (k + 1) f fd ps sp := by
  obtain ⟨oc, od, dV, kV, doc, pm, an, cdv, ct, osl, rfl, lk, hcd, _, _⟩ := F.ex; refine ⟨many, ?_⟩
  intro A outer s H args us vs Q p cls d hr hpin hz hf e0 hb r hsp
  have old : ∀ b o, base.get? b = some o → s.heap.get? b = some o := fun b o e => (e0.bs b o e).1
  have KX : K.In s.heap := e0.mod.kin.keeps old
  have slots : ∀ y ∈ ps.zip us, scope.names.lookup y.1 = some .local ∨
      (scope.names.lookup y.1 = some .cell ∧ ((cellsFrom (s.heap.objs.size + 1) scope.names []).lookup y.1).isSome = true) := by
    intro y hy
    cases S.par y.1 (List.of_mem_zip (show (y.1, y.2) ∈ ps.zip us from hy)).1 with
    | inl q => exact .inl q
    | inr q => exact .inr ⟨q, PySem.W.cellsFrom_some _ _ _ (.inl q)⟩
  refine codeAny_call_function hr.depth (KX _ _ lk) rfl S.co S.gen rfl (PySem.W.codeRec_of KX hcd) (hb _ _ _ _ ?_); refine wpAny_newFunctionEnv_cells S.kind slots fun env he s1 ic => ?_
  subst he
  refine ⟨(e0.mod.nolimit.keeps old).keeps ic.toInCall.keep, codeAny_func ?_⟩
  obtain ⟨t, ht, hq⟩ := hbody cdv A outer s H vs Q p.1 p.2 cls d hz hf (hr.deeper _) hsp
  have I : Inv (L2H.cxH CX0 P w K mg base N qual scope f cdv A outer s H E0 p) [] (start N vs) H s1 := L2H.inv_startH S hpin e0 (many _ _ _ _ _ _ hsp) r ic
  refine wpAny_mono (ht.nox.run [] s1 (start N vs) H _ I hq) (fun fl s' hs => ?_) fun e s' hs => hs
  match fl, hs with
  | .ret u, ⟨v, σ', H', J, rv, q⟩ => exact ⟨v, H', J.os, J.bare, J.base, J.hok, rv, q⟩
  | .next, ⟨σ', H', J, q⟩ => exact ⟨V.non, H', J.os, J.bare, J.base, J.hok, rfl, q⟩
  | .brk, ⟨_, _, _, q⟩ => exact q.elim
  | .cont, ⟨_, _, _, q⟩ => exact q.elim
end KB
namespace KB
open PySem L2 PySem.Spec PyProof.Rows
/-! ### try: several except clauses, with names or without -/
abbrev Clause := Value × Option Nat × List Stmt
/-- behind a named clause its name is gone -/
def clear (i : Nat) (D : Ends) : Ends := { nx := fun σ H => D.nx (σ.set i none) H, rt := D.rt, bk := fun σ H => D.bk (σ.set i none) H, ct := fun σ H => D.ct (σ.set i none) H }
/-- a suite that handles the exception at a -/
def Suite (X : Cx) (su : List Stmt) (D : Ends) (cls : Value) (d : Option Addr) (put : Addr → L2.St) (H : Hp) : Prop :=
  ∀ (a : Addr) (oe : Obj) (pn : List (Addr × Obj)), H a = none → Zc cls d oe → (∃ vs, oe.data = .fields vs) → ∃ t, PSs (X.suite a ((a, oe) :: pn)) su t ∧ t D (put a) H
def wClauses (X : Cx) (Wout : WX) (D : Ends) : List Clause → WX
  | [] => Wout
  | (c, none, su) :: r => fun cls d σ H => ∃ b, PySem.W.exmOne X.K cls c = some b ∧ (b = true → Suite X su D cls d (fun _ => σ) H) ∧ (b = false → wClauses X Wout D r cls d σ H)
  | (c, some i, su) :: r => fun cls d σ H => ∃ b, PySem.W.exmOne X.K cls c = some b ∧ (b = true → Suite X su (clear i D) cls d (fun a => σ.set i (some (.ref a))) H) ∧ (b = false → wClauses X Wout D r cls d σ H)
inductive Clauses (X : Cx) : List ExceptHandler → List Clause → Prop
  | nil : Clauses X [] []
  | plain {x : Str} {c : Value} {b0 : Stmt} {suite : List Stmt} {np pos : Pos} {hds : List ExceptHandler} {l : List Clause} (hc : Names X x c) (r : Clauses X hds l) :
      Clauses X (.ExceptHandler (some (.Name x np)) none (b0 :: suite) pos :: hds) ((c, none, b0 :: suite) :: l)
  | named {x n : Str} {i : Nat} {c : Value} {b0 : Stmt} {suite : List Stmt} {np pos : Pos} {hds : List ExceptHandler} {l : List Clause} (hi : X.N[i]? = some n) (hln : X.env.kindOf n = some .local) (hc : Names X x c)
      (r : Clauses X hds l) : Clauses X (.ExceptHandler (some (.Name x np)) (some n) (b0 :: suite) pos :: hds) ((c, some i, b0 :: suite) :: l)
section
variable {X : Cx} {body : List Stmt} {h0 : ExceptHandler} {hds : List ExceptHandler} {l : List Clause} {pos : Pos} {tb : WX → TS} {Wout : WX}
theorem ps_try (hs : X.stack = X.env :: X.outer) (hf : X.env.frame = some X.env.locals) (hN : X.N.Nodup) (tk : Takes X Wout) (hb : ∀ (W : WX) (pn : List (Addr × Obj)) (xe : Value → Shared → Prop), Takes (X.tr pn xe) W → PassesOwn (model X.prog X.w) X.A X.env xe → PSs (X.tr pn xe) body (tb W))
    (hh : Clauses X (h0 :: hds) l) : PS X (.Try body (h0 :: hds) [] [] pos) (fun D σ H => tb (wClauses X Wout D l) D σ H) := by
  refine ⟨fun pins s σ H D I h => ?_⟩; have ok := I.ok
  have frames : X.A.frames = some (X.env :: X.outer) := by
    rw [ok.frames, hs]
  refine wpAny_Try_except ?_
  have bodyRun := fun xx => (hb (wClauses X Wout D l) (X.pn ++ pins) (fun e z => wpAny (model X.prog X.w) X.A (noteFrame e X.env) (fun _ z2 => wpAny (model X.prog X.w) X.A (setFlight e none) (fun _ z3 =>
    wpAny (model X.prog X.w) X.A (handleBy e X.env (h0 :: hds)) (SP X pins D) X.xe z3) X.xe z2) X.xe z) xx PassesOwn.looking).run [] s σ H D (I.toTry _) h
  refine wpAny_mono (bodyRun (fun u s' xx => ?grab)) (fun f s1 hsp => ?flow) (fun e s1 he => he)
  case flow =>
    cases f with
    | next =>
      obtain ⟨σ', H', J', q⟩ := hsp; exact wpAny_execs_nil ⟨σ', H', J'.ofTry ok, q⟩
    | brk =>
      obtain ⟨σ', H', J', q⟩ := hsp; exact ⟨σ', H', J'.ofTry ok, q⟩
    | cont =>
      obtain ⟨σ', H', J', q⟩ := hsp; exact ⟨σ', H', J'.ofTry ok, q⟩
    | ret u =>
      obtain ⟨v, σ', H', J', r, q⟩ := hsp; exact ⟨v, σ', H', J'.ofTry ok, r, q⟩
  case grab =>
    obtain ⟨a, B, sI, pins', σ', H', cls, d, rfl, J', nb, up, sky, na, os, ag, w⟩ := xx; have J : Inv X pins σ' H' sI := J'.ofTry ok
    have sky2 : Sky B (X.env :: X.outer) a (Zc cls d) X.env.locals s'.heap := by
      rw [← hs]
      exact sky
    show wpAny (model X.prog X.w) X.A (noteFrame (.ref a) X.env) _ _ _; refine Sky.land Zc.steady frames hf sky2 fun g3 fl3 up3 => ?_
    have J3 : Inv X pins σ' H' { s' with heap := g3 } := J.landed nb fl3.1 (up.trans up3) os ag
    rcases fl3.there with ⟨oe3, vs3, he3, hz3, hd3⟩
    have nfr : a ∉ frs (X.env :: X.outer) := by
      intro hm
      obtain ⟨_, o', e', hnf⟩ := fl3.2.2.1.mem hm
      rw [he3] at e'
      cases e'
      exact hnf _ hd3
    have nL : a ≠ X.env.locals := fun y => nfr (List.mem_filterMap.mpr ⟨X.env, List.mem_cons_self, by rw [hf, y]⟩)
    have nF : a ∉ X.fs := by
      intro hm
      obtain ⟨e, he, q⟩ := List.mem_filterMap.mp hm; exact nfr (List.mem_filterMap.mpr ⟨e, List.mem_cons_of_mem _ he, q⟩)
    have S3 := (J3.suite he3 hd3 na nL nF)
    have go : ∀ {hds' : List ExceptHandler} {l' : List Clause}, Clauses X hds' l' → wClauses X Wout D l' cls d σ' H' →
        wpAny (model X.prog X.w) X.A (handleBy (.ref a) X.env hds') (SP X pins D) X.xe { s' with heap := g3 } := by
      intro hds' l' hk
      have typ : PySem.W.Looks (model X.prog X.w) g3 (typeOf (.ref a)) cls := fun A Q E s k q => wpAny_typeOf_ref (k _ _ he3) (by rw [hz3.1]; exact q)
      have test : ∀ {x : Str} {c : Value} {np : Pos} {Q : Value → Shared → Prop} {E : Value → Shared → Prop}, Names X x c → Q c { s' with heap := g3 } →
          wpAny (model X.prog X.w) (X.A.mark (some (.ref a))) (eval (.Name x np) X.env) Q E { s' with heap := g3 } := by
        intro x c np Q E hc q; obtain ⟨hg, hdbg, hm | ⟨hm, hv, hnn⟩⟩ := hc
        · refine ld_glob (X := X.suite a ((a, oe3) :: (X.pn ++ pins))) S3 hg hm q hdbg
        · refine ld_blt (X := X.suite a ((a, oe3) :: (X.pn ++ pins))) S3 hg hm hv q hnn hdbg
      induction hk with
      | nil =>
        intro w
        refine wpAny_handleBy_nil ?_
        obtain ⟨k1, k2, k3, oe, vs, T, oT, ts', he, hz, hd, h1, hr⟩ := id fl3; unfold PySem.passOn
        refine wpAny_bind (wpAny_field he hd h1 ?_); rw [if_neg (show ¬ ((Value.ref T == Value.none) = true) from by simp)]
        have fin : wpAny (model X.prog X.w) X.A (setFlight (.ref a) X.env.frame) (fun _ s4 => wpAny (model X.prog X.w) X.A (throw (.ref a) : Sem Flow) (SP X pins D) X.xe s4) X.xe { s' with heap := g3 } := by
          rw [hf]
          refine HandSPX.setFlight_upZ fl3 fun g4 hh4 up4 => wpAny_throw (tk _ _ ?_); exact ⟨a, B, sI, pins, σ', H', cls, d, rfl, J, nb, (up.trans up3).trans up4, .inr (.inr (by rw [hs]; exact hh4)), na, os, ag, w⟩
        first
          | refine wpAny_bind (wpAny_pure (wpAny_bind fin))
          | exact wpAny_bind fin
      | @plain x c b0 suite np pos' hds2 l2 hc r ih =>
        intro w
        obtain ⟨b, hb1, hyes, hno⟩ := w; refine wpAny_handleBy_cons (codeAny_handlers_test ?_) (by intro q; cases q)
        refine test hc ((PySem.W.exm_one (M := model X.prog X.w) (J3.kIn) typ hb1).here ?_)
        cases b with
        | true =>
          refine codeAny_handlers_suite ?_; refine HandSPX.lands_againZ fl3 fun g4 fl4 up4 => ?_
          have J4 : Inv X pins σ' H' { s' with heap := g4 } := J.landed nb fl4.1 ((up.trans up3).trans up4) os ag
          obtain ⟨oe4, vs4, he4, hz4, hd4⟩ := fl4.there; have S4 := J4.suite he4 hd4 na nL nF
          obtain ⟨t, ht, hq⟩ := hyes rfl a oe4 (X.pn ++ pins) na hz4 ⟨_, hd4⟩
          refine wpAny_mono (ht.run [] _ _ H' _ S4 hq) (fun f s6 hsp => ?_) fun _ _ z => False.elim z
          match f, hsp with
          | .next, ⟨σ6, H6, S6, q6⟩ => exact ⟨_, _, S6.unsuite ok, q6⟩
          | .brk, ⟨σ6, H6, S6, q6⟩ => exact ⟨_, _, S6.unsuite ok, q6⟩
          | .cont, ⟨σ6, H6, S6, q6⟩ => exact ⟨_, _, S6.unsuite ok, q6⟩
          | .ret u, ⟨v6, σ6, H6, S6, r6, q6⟩ => exact ⟨_, _, _, S6.unsuite ok, r6, q6⟩
        | false => exact ih (hno rfl)
      | @named x n i c b0 suite np pos' hds2 l2 hi hln hc r ih =>
        intro w
        have hloc : Loc X.env.scope n := .inl hln; obtain ⟨b, hb1, hyes, hno⟩ := w
        refine wpAny_handleBy_cons (codeAny_handlers_test ?_) (by intro q; cases q); refine test hc ((PySem.W.exm_one (M := model X.prog X.w) (J3.kIn) typ hb1).here ?_)
        cases b with
        | true =>
          refine codeAny_handlers_suite_as ?_; refine HandSPX.lands_againZ fl3 fun g4 fl4 up4 => ?_
          have J4 : Inv X pins σ' H' { s' with heap := g4 } := J.landed nb fl4.1 ((up.trans up3).trans up4) os ag
          obtain ⟨oe4, vs4, he4, hz4, hd4⟩ := fl4.there; have S4 := J4.suite he4 hd4 na nL nF
          refine store_ok (X := X.suite a ((a, oe4) :: (X.pn ++ pins))) (v := .ref a) S4 hN hi hloc rfl (fun s5 S5 => ?_) (.inr hln); obtain ⟨t, ht, hq⟩ := hyes rfl a oe4 (X.pn ++ pins) na hz4 ⟨_, hd4⟩
          refine wpAny_mono (ht.run [] s5 _ H' _ S5 hq) (fun f s6 hsp => ?_) fun _ _ z => False.elim z
          have out : ∀ {σ6 : L2.St} {H6 : Hp} {Q : Shared → Prop}, Inv (X.suite a ((a, oe4) :: (X.pn ++ pins))) [] σ6 H6 s6 → (∀ s7, Inv X pins (σ6.set i none) H6 s7 → Q s7) →
              wpAny (model X.prog X.w) X.A (do bindName X.env n .none; unbindBehindTheSuite X.env n pos') (fun _ s7 => Q s7) X.xe s6 :=
            fun {σ6 H6 Q} S6 hq => gone_ok (S6.unsuite ok) hN hi hln hq
          match f, hsp with
          | .next, ⟨σ6, H6, S6, q6⟩ => exact out S6 fun s7 J7 => ⟨_, _, J7, q6⟩
          | .brk, ⟨σ6, H6, S6, q6⟩ => exact out S6 fun s7 J7 => ⟨_, _, J7, q6⟩
          | .cont, ⟨σ6, H6, S6, q6⟩ => exact out S6 fun s7 J7 => ⟨_, _, J7, q6⟩
          | .ret u, ⟨v6, σ6, H6, S6, r6, q6⟩ => exact out S6 fun s7 J7 => ⟨_, _, _, J7, r6, q6⟩
        | false => exact ih (hno rfl)
    exact go hh w
end
end KB
namespace K1
open PySem PySem.Spec PyProof.Rows L2 KB KZ
/-- kept(n, e) within the suite that handles e -/
def spKeptW (K : PySem.W.Frag) : SpW := fun a cls d vs H Q => ∃ (n : Int) (dd : Addr) (x y : V), vs = [.int n, .ref a] ∧ (n = 19 ∨ n = 11) ∧ cls = .ref (He.ga K (nmZ n)) ∧ d = some dd ∧ H dd = some (.xd (fv n x y)) ∧ ∀ p, H p = none → Q (.ref p) (upd H p (.lst (kv n x y)))
section
variable {K : PySem.W.Frag} {mg : Str → Option Value} {base : Heap} {P : Program} {w : World}
theorem ok_keptW {f : Addr} {fd : FuncData} (F : FnP K "_law_kept" (top 39) f fd) (T : Top K mg) : FnW P w K mg base 1 f fd nKept (spKeptW K) := by
  refine okW F scKept (fun a cls d vs H Q h => ?_) (fun cdv A outer s H vs Q a oe cls d hz hf hr h => ?_)
  · obtain ⟨n, dd, x, y, rfl, _⟩ := h
    rfl
  · obtain ⟨n, dd, x, y, rfl, hn, rfl, rfl, hx, q⟩ := h
    have sc := scKept
    have h0 : 0 ≤ n := by rcases hn with h | h <;> omega
    have h1 : n < 26 := by rcases hn with h | h <;> omega
    have xf := (T.e1 _ (nm_mem h0 h1)).2.xf
    have no : ∀ f, f ∈ fN n.toNat → PySem.W.findIn K (.ref (He.ga K (nmZ n))) f = some none := fun f hf => T.no h0 h1 hf
    refine ⟨_, (pss_cons (ps_if (pt_cmpR op_lt (pv 0) pe_int (nomark _)) (pss_one (ps_ret (pe_lst (pa_cons (pe_getP List.mem_cons_self hz hf (pv 1)) pa_nil)))) pss_nil) (pss_cons (ps_if (pt_cmpR op_lt (pv 0) pe_int (nomark _)) (pss_one (ps_ret (pe_lst (pa_cons (pe_getP List.mem_cons_self hz hf (pv 1)) pa_nil)))) pss_nil) (pss_cons (ps_if (pt_cmpR op_lt (pv 0) pe_int (nomark _)) (pss_one (ps_ret (pe_lst (pa_cons (pe_getP List.mem_cons_self hz hf (pv 1)) pa_nil)))) pss_nil) (pss_cons (ps_if (pt_cmpR op_eq (pv 0) pe_int (nomark _)) (pss_one (ps_ret (pe_lst (pa_cons (pe_getP List.mem_cons_self hz hf (pv 1)) (pa_cons (pe_getP List.mem_cons_self hz hf (pv 1)) pa_nil))))) pss_nil) (pss_cons (ps_if (pt_cmpR op_lt (pv 0) pe_int (nomark _)) (pss_one (ps_ret (pe_lst (pa_cons (pe_getP List.mem_cons_self hz hf (pv 1)) pa_nil)))) pss_nil) (pss_one (ps_ret (pe_ifExp (pt_cmpR op_eq (pv 0) pe_int (nomark _)) (pe_lst (pa_cons (pe_getP List.mem_cons_self hz hf (pv 1)) pa_nil)) (pe_lst pa_nil))))))))), ?_⟩
    have one : (1 : Nat) ≤ sizeLine := by decide
    rcases hn with c | c
    · subst c
      have no' : ∀ f, f ∈ (["line", "column"] : List Str) → PySem.W.findIn K (.ref (He.ga K (nmZ 19))) f = some none := no
      refine ⟨_, rfl, _, _, rfl, rfl, _, rfl, ifF (by decide) ?_⟩
      refine ⟨_, rfl, _, _, rfl, rfl, _, rfl, ifF (by decide) ?_⟩
      refine ⟨_, rfl, _, _, rfl, rfl, _, rfl, ifF (by decide) ?_⟩
      exact ⟨_, rfl, rfl, _, rfl, ifT (decide_eq_true rfl) ⟨_, rfl, rfl, _, dd, _, x, rfl, rfl, hx, xf, no' _ List.mem_cons_self, rfl, _, rfl, rfl, _, dd, _, y, rfl, rfl, hx, xf, no' _ (List.mem_cons_of_mem _ List.mem_cons_self), rfl, (by show (2 : Nat) ≤ sizeLine; decide), q⟩⟩
    · subst c
      have no' : ∀ f, f ∈ (["index"] : List Str) → PySem.W.findIn K (.ref (He.ga K (nmZ 11))) f = some none := no
      refine ⟨_, rfl, _, _, rfl, rfl, _, rfl, ifF (by decide) ?_⟩
      exact ⟨_, rfl, _, _, rfl, rfl, _, rfl, ifT (by decide) ⟨_, rfl, rfl, _, dd, _, x, rfl, rfl, hx, xf, no' _ List.mem_cons_self, rfl, one, q⟩⟩
end
end K1
namespace K1
open PySem PySem.Spec PyProof.Rows L2 KB KZ
/-- what is met of the error raised for n -/
def metV (n : Int) (x y : V) : List V := if n = 0 then [.bl true, .bl false, x, y] else if n = 1 then [.int 1, x] else [.bl false, .bl true, y]
def spMet : Sp := fun vs H Q _ => ∃ (n : Int) (x y : V), vs = [.int n, x, y] ∧ 0 ≤ n ∧ n < 3 ∧ ∀ (p : Addr) (H' : Hp), H p = none → Same H H' → H' p = some (.lst (metV n x y)) → Q (.ref p) H'
section
variable {K : PySem.W.Frag} {mg : Str → Option Value} {base : Heap} {P : Program} {w : World}
/-- met where the suites call -/
def HasW (P : Program) (w : World) (K : PySem.W.Frag) (mg : Str → Option Value) (base : Heap) (x : Str) (i : Nat) (ps : List Str) (k : Nat) (sp : SpW) : Prop := ∃ (f : Addr) (fd : FuncData), FnP K x (top i) f fd ∧ mg x = some (.ref f) ∧ Binds K fd ps [] ∧ FnW P w K mg base k f fd ps sp
theorem Top.xm (T : Top K mg) {x y : Str} {b : Bool} (hx : x ∈ names ++ (["KindError"] : List Str)) (hy : y ∈ names ++ (["KindError"] : List Str)) (hb : decide (x = y ∨ y = "KindError") = b) : PySem.W.exmOne K (.ref (He.ga K x)) (.ref (He.ga K y)) = some b := by
  rw [T.e6.2.2.2.2.2 x hx y hy, hb]
theorem Top.ki (T : Top K mg) {x y : Str} {b : Bool} (hx : x ∈ names) (hy : y ∈ names) (hb : decide (x = y) = b) : PySem.W.kitOne K (.ref (He.ga K x)) (.ref (He.ga K y)) = some b := by
  rw [T.e4 x hx y hy, hb]
abbrev nMet : List Str := ["_law_number", "_law_one", "_law_two", "_law_found", "e"]
theorem scMet : FnScope nMet ["_law_number", "_law_one", "_law_two"] (defScope (top 43)) := ⟨rfl, rfl, rfl, by decide +kernel, rfl, by decide +kernel, by decide +kernel⟩
theorem ok_met {f : Addr} {fd : FuncData} (F : FnP K "_law_met" (top 43) f fd) (T : Top K mg) (hK : HasW P w K mg base "_law_kept" 39 nKept 1 (spKeptW K)) : FnOk P w K mg base CX0 3 f fd ["_law_number", "_law_one", "_law_two"] spMet := by
  obtain ⟨fK, fdK, FK, gK, bK, GK⟩ := hK
  refine F.ok scMet (fun vs H Q E h => ?_) (fun cdv A outer s H vs Q E hr h => ?_)
  · obtain ⟨n, x, y, rfl, _⟩ := h
    rfl
  · obtain ⟨n, x, y, rfl, h0, h1, q⟩ := h
    have sc := scMet
    have hr2 : Room 2 _ := hr
    have hr1 : Room 1 _ := hr.mono (by decide); have hrK : ∀ h, L2H.RoomH 1 ((A.deeper (envOfC "_law_met" (defScope (top 43)) s.heap.objs.size f cdv)).mark h) := fun _ => ⟨hr1.dp, hr1.un⟩
    refine ⟨_, PSs.nox (pss_cons (ps_set (i := 3) sc.nd rfl (Or.inl rfl) (pe_lst pa_nil)) (pss_cons (ps_try rfl rfl sc.nd takes_none5 (fun W pn xe tk po => (pss_cons (ps_if (pt_cmpR op_eq (pv 0) pe_int (nomark _)) (pss_one (ps_raise rfl tk (pmk_new (err_InvalidText T) hr2 (by decide) rfl (pa_cons (pv 1) (pa_cons (pv 2) pa_nil))))) pss_nil) (pss_cons (ps_if (pt_cmpR op_eq (pv 0) pe_int (nomark _)) (pss_one (ps_raise rfl tk (pmk_new (err_WrongTerm T) hr2 (by decide) rfl (pa_cons (pv 1) pa_nil)))) pss_nil) (pss_one (ps_raise rfl tk (pmk_newK (err_NotRelated T) hr2 rfl (pk_cons (pv 2) pk_nil))))))) (.plain ⟨rfl, by decide, .inl (T.cls "InvalidTerm" (by decide +kernel))⟩ (.named (i := 4) rfl rfl ⟨rfl, by decide, .inl (T.cls "WrongTerm" (by decide +kernel))⟩ (.named (i := 4) rfl rfl ⟨rfl, by decide, .inl (T.cls "KindError" (by decide +kernel))⟩ .nil)))) (pss_one (ps_ret (pv 3))))), ?_⟩
    have sz : ∀ k : Nat, k ≤ 1000 → k ≤ sizeLine := fun k h => Nat.le_of_lt (small1000 h)
    refine ⟨Nat.zero_le _, fun p1 n1 => ?_⟩
    have s1 : Same H (upd H p1 (.lst [])) := Same.new n1
    by_cases c0 : n = 0
    · subst c0
      refine ⟨_, rfl, rfl, _, rfl, ifT (decide_eq_true rfl) ?_⟩
      refine ⟨_, rfl, _, rfl, rfl, fun dd nd => ?_⟩
      have s2 := @Same.new dd _ (.xd (([("line" : Str), "column"] : List Str).zip [x, y]).reverse) nd
      refine ⟨false, T.xm (by decide +kernel) (by decide +kernel) (by decide), nofun, fun _ => ⟨false, T.xm (by decide +kernel) (by decide +kernel) (by decide), nofun, fun _ => ⟨true, T.xm (by decide +kernel) (by decide +kernel) (by decide), fun _ a oe pn na hz hf => ⟨_, (pss_cons (ps_set (i := 3) sc.nd rfl (Or.inl rfl) (pe_op op_cat (pv 3) (pe_lst (pa_cons (pe_callB (call_isP List.mem_cons_self hz hf) (by rfl) T.bl.isinstance (by decide +kernel) (pa_cons (pv 4) (pa_cons (pe_glob (v := .ref (He.ga K "InvalidText")) rfl (T.cls "InvalidText" (by decide +kernel)) rfl) pa_nil))) (pa_cons (pe_callB (call_isP List.mem_cons_self hz hf) (by rfl) T.bl.isinstance (by decide +kernel) (pa_cons (pv 4) (pa_cons (pe_glob (v := .ref (He.ga K "NotRelated")) rfl (T.cls "NotRelated" (by decide +kernel)) rfl) pa_nil))) pa_nil))))) (pss_one (ps_set (i := 3) sc.nd rfl (Or.inl rfl) (pe_op op_cat (pv 3) (pe_ifExp (pt_cmpR op_eq (pv 0) pe_int (nomark _)) (pe_callW GK (hrK _) List.mem_cons_self hz hf rfl gK FK.kp bK (pa_cons pe_int (pa_cons (pv 4) pa_nil))) (pe_callW GK (hrK _) List.mem_cons_self hz hf rfl gK FK.kp bK (pa_cons pe_int (pa_cons (pv 4) pa_nil)))))))), ?_⟩, nofun⟩⟩⟩
      refine ⟨_, rfl, _, rfl, _, dd, _, _, _, _, rfl, rfl, rfl, upd_same, (T.e1 _ (by decide +kernel)).2, .own _, T.ki (b := true) (by decide +kernel) (by decide +kernel) (by decide), _, rfl, _, dd, _, _, _, _, rfl, rfl, rfl, upd_same, (T.e1 _ (by decide +kernel)).2, .own _, T.ki (b := false) (by decide +kernel) (by decide +kernel) (by decide), sz _ (by decide), fun p2 n2 => ?_⟩
      have s3 := @Same.new p2 _ (.lst [V.bl true, .bl false]) n2
      refine ⟨_, _, _, _, rfl, rfl, (s2.trans s3) p1 _ upd_same, upd_same, sz _ (by decide), fun p3 n3 => ?_⟩
      have s4 := @Same.new p3 _ (.lst ([] ++ [V.bl true, .bl false])) n3
      refine ⟨_, rfl, _, rfl, rfl, _, rfl, ifT (decide_eq_true rfl) ?_⟩
      refine ⟨_, rfl, 19, dd, x, y, rfl, .inl rfl, rfl, rfl, (s3.trans s4) dd _ upd_same, fun p4 n4 => ?_⟩
      have s5 := @Same.new p4 _ (.lst (kv 19 x y)) n4
      refine ⟨_, _, _, _, rfl, rfl, s5 p3 _ upd_same, upd_same, sz _ (by show (4 : Nat) ≤ 1000; decide), fun p5 n5 => ?_⟩
      have s6 := @Same.new p5 _ (.lst (([] ++ [V.bl true, .bl false]) ++ kv 19 x y)) n5
      exact ⟨_, rfl, q p5 _ ((s1.trans (s2.trans (s3.trans (s4.trans s5)))).free n5) (s1.trans (s2.trans (s3.trans (s4.trans (s5.trans s6))))) upd_same⟩
    · by_cases c1 : n = 1
      · subst c1
        refine ⟨_, rfl, rfl, _, rfl, ifF (by decide) ?_⟩
        refine ⟨_, rfl, rfl, _, rfl, ifT (decide_eq_true rfl) ?_⟩
        refine ⟨_, rfl, rfl, fun dd nd => ?_⟩
        have s2 := @Same.new dd _ (.xd (([("place" : Str)] : List Str).zip [x]).reverse) nd
        refine ⟨false, T.xm (by decide +kernel) (by decide +kernel) (by decide), nofun, fun _ => ⟨true, T.xm (by decide +kernel) (by decide +kernel) (by decide), fun _ a oe pn na hz hf => ⟨_, (pss_one (ps_set (i := 3) sc.nd rfl (Or.inl rfl) (pe_op op_cat (pv 3) (pe_lst (pa_cons pe_int (pa_cons (pe_getP List.mem_cons_self hz hf (pv 4)) pa_nil)))))), ?_⟩, nofun⟩⟩
        have xf := (T.e1 "WrongTerm" (by decide +kernel)).2.xf
        have no : PySem.W.findIn K (.ref (He.ga K "WrongTerm")) "place" = some none := T.e2 ("WrongTerm", 20, ["place"]) (by decide +kernel) "place" (by decide +kernel)
        refine ⟨_, rfl, _, rfl, rfl, _, dd, _, x, rfl, rfl, upd_same, xf, no, rfl, sz _ (by show (2 : Nat) ≤ 1000; decide), fun p2 n2 => ?_⟩
        have s3 := @Same.new p2 _ (.lst [V.int 1, x]) n2
        refine ⟨_, _, _, _, rfl, rfl, (s2.trans s3) p1 _ upd_same, upd_same, sz _ (by show (2 : Nat) ≤ 1000; decide), fun p3 n3 => ?_⟩
        have s4 := @Same.new p3 _ (.lst ([] ++ [V.int 1, x])) n3
        exact ⟨_, rfl, q p3 _ ((s1.trans (s2.trans s3)).free n3) (s1.trans (s2.trans (s3.trans s4))) upd_same⟩
      · obtain rfl : n = 2 := by omega
        refine ⟨_, rfl, rfl, _, rfl, ifF (by decide) ?_⟩
        refine ⟨_, rfl, rfl, _, rfl, ifF (by decide) ?_⟩
        refine ⟨_, rfl, rfl, fun dd nd => ?_⟩
        have s2 := @Same.new dd _ (.xd (([("index" : Str)] : List Str).zip [y]).reverse) nd
        refine ⟨false, T.xm (by decide +kernel) (by decide +kernel) (by decide), nofun, fun _ => ⟨false, T.xm (by decide +kernel) (by decide +kernel) (by decide), nofun, fun _ => ⟨true, T.xm (by decide +kernel) (by decide +kernel) (by decide), fun _ a oe pn na hz hf => ⟨_, (pss_cons (ps_set (i := 3) sc.nd rfl (Or.inl rfl) (pe_op op_cat (pv 3) (pe_lst (pa_cons (pe_callB (call_isP List.mem_cons_self hz hf) (by rfl) T.bl.isinstance (by decide +kernel) (pa_cons (pv 4) (pa_cons (pe_glob (v := .ref (He.ga K "InvalidText")) rfl (T.cls "InvalidText" (by decide +kernel)) rfl) pa_nil))) (pa_cons (pe_callB (call_isP List.mem_cons_self hz hf) (by rfl) T.bl.isinstance (by decide +kernel) (pa_cons (pv 4) (pa_cons (pe_glob (v := .ref (He.ga K "NotRelated")) rfl (T.cls "NotRelated" (by decide +kernel)) rfl) pa_nil))) pa_nil))))) (pss_one (ps_set (i := 3) sc.nd rfl (Or.inl rfl) (pe_op op_cat (pv 3) (pe_ifExp (pt_cmpR op_eq (pv 0) pe_int (nomark _)) (pe_callW GK (hrK _) List.mem_cons_self hz hf rfl gK FK.kp bK (pa_cons pe_int (pa_cons (pv 4) pa_nil))) (pe_callW GK (hrK _) List.mem_cons_self hz hf rfl gK FK.kp bK (pa_cons pe_int (pa_cons (pv 4) pa_nil)))))))), ?_⟩, nofun⟩⟩⟩
        refine ⟨_, rfl, _, rfl, _, dd, _, _, _, _, rfl, rfl, rfl, upd_same, (T.e1 _ (by decide +kernel)).2, .own _, T.ki (b := false) (by decide +kernel) (by decide +kernel) (by decide), _, rfl, _, dd, _, _, _, _, rfl, rfl, rfl, upd_same, (T.e1 _ (by decide +kernel)).2, .own _, T.ki (b := true) (by decide +kernel) (by decide +kernel) (by decide), sz _ (by decide), fun p2 n2 => ?_⟩
        have s3 := @Same.new p2 _ (.lst [V.bl false, .bl true]) n2
        refine ⟨_, _, _, _, rfl, rfl, (s2.trans s3) p1 _ upd_same, upd_same, sz _ (by decide), fun p3 n3 => ?_⟩
        have s4 := @Same.new p3 _ (.lst ([] ++ [V.bl false, .bl true])) n3
        refine ⟨_, rfl, _, rfl, rfl, _, rfl, ifF (by decide) ?_⟩
        refine ⟨_, rfl, 11, dd, y, y, rfl, .inr rfl, rfl, rfl, (s3.trans s4) dd _ upd_same, fun p4 n4 => ?_⟩
        have s5 := @Same.new p4 _ (.lst (kv 11 y y)) n4
        refine ⟨_, _, _, _, rfl, rfl, s5 p3 _ upd_same, upd_same, sz _ (by show (3 : Nat) ≤ 1000; decide), fun p5 n5 => ?_⟩
        have s6 := @Same.new p5 _ (.lst (([] ++ [V.bl false, .bl true]) ++ kv 11 y y)) n5
        exact ⟨_, rfl, q p5 _ ((s1.trans (s2.trans (s3.trans (s4.trans s5)))).free n5) (s1.trans (s2.trans (s3.trans (s4.trans (s5.trans s6))))) upd_same⟩
end
end K1
namespace K1
open PySem PySem.Spec PyProof.Rows L2 KB KZ
def spOne : Sp := fun vs H Q _ => ∃ (w : Addr) (c : Int), vs = [.ref w] ∧ Wl H w c ∧ c + 3000 < 2 ^ 60 ∧ ∀ H' : Hp, Kw w H H' → Q (.bl true) H'
/-- the data of what is met -/
def metD (n : Nat) (d e : PyData) : List PyData := if n = 0 then [.bool true, .bool false, d, e] else if n = 1 then [.int 1, d] else [.bool false, .bool true, e]
theorem met_dt {F : Addr → Prop} {H : Hp} {x y : V} {d e : PyData} (hx : Dt F H x d) (hy : Dt F H y e) : ∀ n : Nat, DtA F H (metV (n : Int) x y) (metD n d e)
  | 0 => .cons (.bl true) (.cons (.bl false) (.cons hx (.cons hy .nil)))
  | 1 => .cons (.int 1) (.cons hx .nil)
  | n + 2 => by
    unfold metV metD
    rw [if_neg (by omega), if_neg (by omega), if_neg (by omega), if_neg (by omega)]
    exact .cons (.bl false) (.cons (.bl true) (.cons hy .nil))
theorem met_gd {d e : PyData} (hx : Gd 5 600 d) (hy : Gd 5 600 e) (n : Nat) : ∀ z ∈ metD n d e, Gd 5 600 z := by
  have b : ∀ b : Bool, Gd 5 600 (.bool b) := fun b => gdB_ok (by cases b <;> decide +kernel)
  have o : Gd 5 600 (.int 1) := gdB_ok (by decide +kernel)
  intro z hz
  unfold metD at hz
  split at hz
  · simp only [List.mem_cons, List.not_mem_nil, or_false] at hz
    rcases hz with rfl | rfl | rfl | rfl
    · exact b _
    · exact b _
    · exact hx
    · exact hy
  split at hz
  · simp only [List.mem_cons, List.not_mem_nil, or_false] at hz
    rcases hz with rfl | rfl
    · exact o
    · exact hx
  · simp only [List.mem_cons, List.not_mem_nil, or_false] at hz
    rcases hz with rfl | rfl | rfl
    · exact b _
    · exact b _
    · exact hy
theorem metD_len (n : Nat) (d e : PyData) : (metD n d e).length ≤ 4 := by
  unfold metD
  split
  · exact Nat.le_refl 4
  · split
    · show (2 : Nat) ≤ 4
      decide
    · show (3 : Nat) ≤ 4
      decide
abbrev metsD (d e : PyData) : PyData := .list [.list (metD 0 d e), .list (metD 1 d e), .list (metD 2 d e)]
theorem mets_gd {d e : PyData} (hx : Gd 5 600 d) (hy : Gd 5 600 e) : Gd 60 10000 (metsD d e) := by
  have one : ∀ n, Gd 6 2411 (.list (metD n d e)) := fun n => gd_lst (n := 5) (L := 600) (m := 4) (met_gd hx hy n) (metD_len n d e)
  refine (gd_lst (n := 6) (L := 2411) (m := 3) (ds := [.list (metD 0 d e), .list (metD 1 d e), .list (metD 2 d e)]) (fun z hz => ?_) (Nat.le_refl 3)).mono (by decide) (by decide)
  simp only [List.mem_cons, List.not_mem_nil, or_false] at hz
  rcases hz with rfl | rfl | rfl <;> exact one _
theorem mets_dt {H : Hp} {p a0 a1 a2 : Addr} {x y : V} {d e : PyData} (hx : Dt Any H x d) (hy : Dt Any H y e) (hp : H p = some (.lst [.ref a0, .ref a1, .ref a2])) (h0 : H a0 = some (.lst (metV ((0 : Nat) : Int) x y))) (h1 : H a1 = some (.lst (metV ((1 : Nat) : Int) x y))) (h2 : H a2 = some (.lst (metV ((2 : Nat) : Int) x y))) :
    Dt Any H (.ref p) (metsD d e) := .lst trivial hp (.cons (.lst trivial h0 (met_dt hx hy 0)) (.cons (.lst trivial h1 (met_dt hx hy 1)) (.cons (.lst trivial h2 (met_dt hx hy 2)) .nil)))
section
variable {K : PySem.W.Frag} {mg : Str → Option Value} {base : Heap} {P : Program} {w : World}
abbrev nOne : List Str := ["_law_well_here", "_law_begin", "_law_turn", "_law_one", "_law_two", "_law_due", "_law_number", "_law_base"]
theorem scOne : FnScope nOne ["_law_well_here"] (defScope (top 44)) := ⟨rfl, rfl, rfl, by decide +kernel, rfl, by decide +kernel, by decide +kernel⟩
theorem ok_one {f : Addr} {fd : FuncData} (F : FnP K "_law_right" (top 44) f fd) (T : Top K mg) (hD : Has P w K mg base "_law_draw" 30 ["_law_well_here", "_law_many"] 1 spDraw) (hT2 : Has P w K mg base "_law_thing" 34 ["_law_well_here", "_law_deep"] 6 (spThing 2))
    (hC : Has P w K mg base "_law_of_classes" 40 ["_law_error"] 1 (spCls K)) (hM : Has P w K mg base "_law_met" 43 ["_law_number", "_law_one", "_law_two"] 3 spMet) (hS : HasG P w K mg base "_law_same" 32 nSame 1 spSame)
    (hR : HasG P w K mg base "_law_are_right" 42 ["_law_well_here", "_law_first"] 7 spRight) : FnG P w K mg base 8 f fd ["_law_well_here"] spOne := by
  obtain ⟨fD, fdD, FD, gD, bD, GD⟩ := hD
  obtain ⟨fT, fdT, FT, gT, bT, GT⟩ := hT2
  obtain ⟨fC, fdC, FC, gC, bC, GC⟩ := hC
  obtain ⟨fM, fdM, FM, gM, bM, GM⟩ := hM
  obtain ⟨fS, fdS, FS, gS, bS, GS⟩ := hS
  obtain ⟨fR, fdR, FR, gR, bR, GR⟩ := hR
  refine okG F scOne (fun vs H Q h => ?_) (fun cdv A outer s H vs Q hgd hr h => ?_)
  · obtain ⟨w, c, rfl, _⟩ := h
    rfl
  · obtain ⟨w, c, rfl, hw, hc, q⟩ := h
    have sc := scOne
    have hrD : Room 1 _ := hr.mono (by decide)
    have hrT : Room 6 _ := hr.mono (by decide)
    have hrC : Room 1 _ := hr.mono (by decide)
    have hrM : Room 3 _ := hr.mono (by decide)
    have hrS : Room 1 _ := hr.mono (by decide)
    have hrR : Room 7 _ := hr
    refine ⟨_, (pss_cons (ps_set (i := 1) sc.nd rfl (Or.inl rfl) (pe_call GD hrD rfl gD FD.kp bD .nil pass0 (pa_cons (pv 0) (pa_cons pe_int pa_nil)))) (pss_cons (ps_for PassesOwn.never rfl (pi_range1 rfl T.bl.range (pa_cons pe_int pa_nil)) (pg_name (i := 2) sc.nd rfl (Or.inl rfl)) (pss_one (ps_if (pt_not (pt_val (pe_callG GR hgd hrR rfl gR FR.kp bR .nil (pa_cons (pv 0) (pa_cons (pe_op op_mod (pe_callTy call_int1 (by rfl) T.bl.int (by decide +kernel) (pa_cons (pe_op op_add (pv 1) (pe_op op_mul pe_int (pv 2))) pa_nil)) pe_int) pa_nil))))) (pss_one (ps_ret pe_bl)) pss_nil))) (pss_cons (ps_asg (pe_tup (pa_cons (pe_call GT hrT rfl gT FT.kp bT .nil pass0 (pa_cons (pv 0) (pa_cons pe_int pa_nil))) (pa_cons (pe_call GT hrT rfl gT FT.kp bT .nil pass0 (pa_cons (pv 0) (pa_cons pe_int pa_nil))) pa_nil))) (pg_tup rfl (pgs_cons (pg_name (i := 3) sc.nd rfl (Or.inr rfl)) (pgs_cons (pg_name (i := 4) sc.nd rfl (Or.inr rfl)) pgs_nil)))) (pss_cons (ps_set (i := 5) sc.nd rfl (Or.inl rfl) (pe_lst (pa_cons (pe_lst (pa_cons pe_bl (pa_cons pe_bl (pa_cons (pv 3) (pa_cons (pv 4) pa_nil))))) (pa_cons (pe_lst (pa_cons pe_int (pa_cons (pv 3) pa_nil))) (pa_cons (pe_lst (pa_cons pe_bl (pa_cons pe_bl (pa_cons (pv 4) pa_nil)))) pa_nil))))) (pss_cons (ps_if (pt_not (pt_val (pe_callG GS hgd hrS rfl gS FS.kp bS .nil (pa_cons (pe_lc (own := [("_law_number", 6)]) (g := gName 6) (tt := tYes) (by rfl) sc.nd (pi_range1 rfl T.bl.range (pa_cons pe_int pa_nil)) (blkOk_by (own := [("_law_number", 6)]) (N := nOne) (sc := (defScope (top 44))) (by decide +kernel)) (fun _ _ _ _ _ => pg_name (i := 6) sc.nd rfl (Or.inl rfl)) (fun _ _ _ _ _ => pts_nil) (fun _ _ _ _ _ => (pe_call GM hrM rfl gM FM.kp bM .nil pass0 (pa_cons (pv 6) (pa_cons (pv 3) (pa_cons (pv 4) pa_nil)))))) (pa_cons (pv 5) pa_nil))))) (pss_one (ps_ret pe_bl)) pss_nil) (pss_cons (ps_set (i := 7) sc.nd rfl (Or.inl rfl) (pe_new0 T.e6.2.2.1 (T.cls _ (by decide +kernel)) T.e6.1.1.kC rfl)) (pss_one (ps_ret (pe_and (pe_callB call_isE (by rfl) T.bl.isinstance (by decide +kernel) (pa_cons (pv 7) (pa_cons (pe_bltn (v := .ty "ValueError") (by rfl) (T.ty "ValueError" (by decide +kernel)) (by decide +kernel) rfl) pa_nil))) (pe_one (pe_cmpR op_notIn_seq pe_bl (pe_call GC hrC rfl gC FC.kp bC .nil pass0 (pa_cons (pv 7) pa_nil)) (by rfl)))))))))))), ?_⟩
    have sz : ∀ k : Nat, k ≤ 1000 → k ≤ sizeLine := fun k h => Nat.le_of_lt (small1000 h)
    have t2 : TT 2 = 26 := rfl
    refine ⟨_, rfl, w, 26, c, rfl, hw, by omega, by decide, by decide, fun r c1 H1 r0 r1 k1 w1 e1 => ?_⟩
    refine ⟨9, rfl, by decide, by decide, for_range (lo := 0) (n := 9) (fun i σ H2 => ∃ (t : Option V) (c2 : Int), σ = [some (.ref w), some (.int r), t, none, none, none, none, none] ∧ Kw w H H2 ∧ Wl H2 w c2 ∧ c2 ≤ c + 1 + i * 200) ⟨none, c1, rfl, k1, w1, by omega⟩ ?_ ?_⟩
    · rintro i σ H2 hi ⟨t, c2, rfl, k2, w2, e2⟩
      have i9 : (i : Int) < 9 := by omega
      refine ⟨_, rfl, _, rfl, _, rfl, _, _, rfl, rfl, .inl ⟨by decide, by decide⟩, _, _, rfl, rfl, .inl ⟨_, rfl, _, _, rfl, rfl, (by decide : (0 : Int) < 26), ?_⟩⟩
      refine ⟨w, _, c2, rfl, Int.emod_nonneg _ (by decide), Int.emod_lt_of_pos _ (by decide), w2, by omega, fun c3 H3 k3 w3 e3 => ⟨_, rfl, iteF ?_⟩⟩
      exact ⟨_, c3, rfl, k2.trans k3, w3, by omega⟩
    · rintro σ H2 ⟨t, c2, rfl, k2, w2, e2⟩
      refine ⟨_, rfl, w, c2, rfl, w2, by omega, fun v1 d1 c3 H3 x1 gd1 k3 w3 e3 => ?_⟩
      refine ⟨_, rfl, w, c3, rfl, w3, by omega, fun v2 d2 c4 H4 x2 gd2 k4 w4 e4 => ?_⟩
      have y1 : Dt Any H4 v1 d1 := (k4.data w2.some x1).any
      have y2 : Dt Any H4 v2 d2 := x2.any
      have g1 : Gd 5 600 d1 := gd1.mono (by decide) (by decide)
      have g2 : Gd 5 600 d2 := gd2.mono (by decide) (by decide)
      refine ⟨sz _ (by show (2 : Nat) ≤ 1000; decide), fun tp ntp => ?_⟩
      have s1 := @Same.new tp _ (.tup [v1, v2]) ntp
      refine ⟨tp, _, rfl, SqT.of upd_same, rfl, _, _, rfl, _, _, rfl, rfl, ?_⟩
      -- what is due
      refine ⟨_, rfl, _, rfl, sz _ (by show (4 : Nat) ≤ 1000; decide), fun b0 m0 => ?_⟩
      have s2 := @Same.new b0 _ (.lst [.bl true, .bl false, v1, v2]) m0
      refine ⟨_, rfl, sz _ (by show (2 : Nat) ≤ 1000; decide), fun b1 m1 => ?_⟩
      have s3 := @Same.new b1 _ (.lst [.int 1, v1]) m1
      refine ⟨_, rfl, sz _ (by show (3 : Nat) ≤ 1000; decide), fun b2 m2 => ?_⟩
      have s4 := @Same.new b2 _ (.lst [.bl false, .bl true, v2]) m2
      refine ⟨sz _ (by show (3 : Nat) ≤ 1000; decide), fun pd nd => ?_⟩
      have s5 := @Same.new pd _ (.lst [.ref b0, .ref b1, .ref b2]) nd
      have s15 := s1.trans (s2.trans (s3.trans (s4.trans s5)))
      have due : Dt Any _ (.ref pd) (metsD d1 d2) := mets_dt (y1.sm s15) (y2.sm s15) upd_same ((s3.trans (s4.trans s5)) b0 _ upd_same) ((s4.trans s5) b1 _ upd_same) (s5 b2 _ upd_same)
      generalize hX : upd (upd (upd (upd (upd H4 tp (.tup [v1, v2])) b0 (.lst [.bl true, .bl false, v1, v2])) b1 (.lst [.int 1, v1])) b2 (.lst [.bl false, .bl true, v2])) pd (.lst [.ref b0, .ref b1, .ref b2]) = HX at due s15 ⊢
      -- what is met
      refine ⟨3, rfl, by decide, by decide, fun D nD => lc_range (lo := 0) (n := 3) (fun i H2 => Same HX H2 ∧ ∃ ms : List Addr, ms.length = i ∧ H2 D = some (.lst (ms.map V.ref)) ∧ ∀ (j : Nat) (a : Addr), ms[j]? = some a → a ≠ D ∧ H2 a = some (.lst (metV (j : Int) v1 v2)))
        ⟨Same.new nD, [], rfl, upd_same, fun j a e => by cases e⟩ ?_ ?_⟩
      · rintro i H2 hi ⟨sm, ms, hl, hD, hm⟩
        refine ⟨rfl, ?_⟩
        refine iteT (B := Same HX H2 ∧ ∃ ms : List Addr, ms.length = i + 1 ∧ H2 D = some (.lst (ms.map V.ref)) ∧ ∀ (j : Nat) (a : Addr), ms[j]? = some a → a ≠ D ∧ H2 a = some (.lst (metV (j : Int) v1 v2))) ?_
        refine ⟨_, rfl, _, rfl, _, rfl, _, v1, v2, rfl, by omega, by omega, fun p H3 np s6 hp => ?_⟩
        have npD : p ≠ D := fun z => by
          rw [z, hD] at np
          cases np
        refine ⟨_, s6 _ _ hD, small1000 (by rw [List.length_map]; omega), fun b o e => ?_, ms ++ [p], by rw [List.length_append, hl]; rfl, by rw [upd_same, List.map_append]; rfl, fun j a e => ?_⟩
        · rw [upd_ne (ne_of_none e nD)]
          exact s6 b o (sm b o e)
        · by_cases hj : j < ms.length
          · rw [List.getElem?_append_left hj] at e
            obtain ⟨h1, h2⟩ := hm j a e
            exact ⟨h1, by rw [upd_ne h1]; exact s6 _ _ h2⟩
          · rw [List.getElem?_append_right (by omega)] at e
            have hj2 : j - ms.length = 0 := by
              by_cases z : j - ms.length = 0
              · exact z
              · obtain ⟨k, hk⟩ := Nat.exists_eq_succ_of_ne_zero z
                rw [hk] at e
                cases e
            rw [hj2] at e
            cases e
            refine ⟨npD, ?_⟩
            rw [upd_ne npD, hp]
            have : (0 : Int) + (i : Int) = (j : Int) := by omega
            rw [this]
      · rintro H6 ⟨sm, ms, hl, hD, hm⟩
        match ms, hl, hD, hm with
        | [a0, a1, a2], _, hD, hm =>
          have dm : Dt Any H6 (.ref D) (metsD d1 d2) := mets_dt ((y1.sm s15).sm sm) ((y2.sm s15).sm sm) hD (hm 0 a0 rfl).2 (hm 1 a1 rfl).2 (hm 2 a2 rfl).2
          refine ⟨_, rfl, _, _, metsD d1 d2, rfl, dm, due.sm sm, mets_gd g1 g2, ⟨_, rfl, iteF ?_⟩⟩
          intro be nbe
          have s7 := @Same.new be _ (exo be (He.ga K "KindError") none) nbe
          have hb : Exv (upd H6 be (exo be (He.ga K "KindError") none)) be (He.ga K "KindError") [] := .inl ⟨rfl, upd_same⟩
          refine ⟨_, rfl, be, _, [], _, _, _, rfl, hb, T.e6.1.2, .ty _, T.e6.2.2.2.2.1, ?_⟩
          refine ⟨_, rfl, iteT ?_⟩
          refine ⟨_, rfl, be, _, [], fun _ => false, rfl, hb, T.e6.1.2, fun y hy => T.e6.2.2.2.1 y hy, fun p H7 np s8 hp => ?_⟩
          refine ⟨p, _, rfl, .inl (SqL.of hp), rfl, by decide +kernel, ?_⟩
          have e : (!inV (V.bl true) (names.map fun y => V.bl ((fun _ : Str => false) y))) = true := by decide +kernel
          show Q (.bl (!inV (V.bl true) (names.map fun y => V.bl ((fun _ : Str => false) y)))) H7
          rw [e]
          exact q H7 (k2.trans (k3.trans (k4.trans (Kw.same (s15.trans (sm.trans (s7.trans s8)))))))
end
end K1
namespace K1
open PySem PySem.Spec PyProof.Rows L2 KB KZ
def spLaw (K : PySem.W.Frag) : Sp := fun vs H Q _ => ∃ (a : Addr) (ns : List Int), vs = [.ref a] ∧ SqL K H a (ns.map V.int) ∧ ∀ H' : Hp, Q (.bl true) H'
section
variable {K : PySem.W.Frag} {mg : Str → Option Value} {base : Heap} {P : Program} {w : World}
abbrev nLaw : List Str := ["_law_script", "_law_turn"]
theorem scLaw : FnScope nLaw ["_law_script"] (defScope (top 45)) := ⟨rfl, rfl, rfl, by decide +kernel, rfl, by decide +kernel, by decide +kernel⟩
theorem all_yes (n : Nat) : (List.replicate n true).all id = true := by
  rw [List.all_eq_true]
  intro b hb
  exact (List.mem_replicate.mp hb).2
theorem few (n : Int) : (if (if (3 : Int) < n then (3 : Int) else n) > 2 then (if (3 : Int) < n then (3 : Int) else n) else 2) = 2 ∨ (if (if (3 : Int) < n then (3 : Int) else n) > 2 then (if (3 : Int) < n then (3 : Int) else n) else 2) = 3 := by
  by_cases h : (3 : Int) < n
  · right
    rw [if_pos h]
    rfl
  · rw [if_neg h]
    by_cases h2 : n > 2
    · rw [if_pos h2]
      omega
    · rw [if_neg h2]
      exact .inl rfl
theorem ok_law {f : Addr} {fd : FuncData} (F : FnP K "law" (top 45) f fd) (T : Top K mg) (hW : Has P w K mg base "_law_well" 29 ["_law_script", "_law_turn"] 1 (spWell K)) (hO : HasG P w K mg base "_law_right" 44 ["_law_well_here"] 8 spOne) : FnG P w K mg base 9 f fd ["_law_script"] (spLaw K) := by
  obtain ⟨fW, fdW, FW, gW, bW, GW⟩ := hW
  obtain ⟨fO, fdO, FO, gO, bO, GO⟩ := hO
  refine okG F scLaw (fun vs H Q h => ?_) (fun cdv A outer s H vs Q hgd hr h => ?_)
  · obtain ⟨a, ns, rfl, _⟩ := h
    rfl
  · obtain ⟨a, ns, rfl, hS, q⟩ := h
    have sc := scLaw
    have hrW : Room 1 _ := hr.mono (by decide)
    have hrO : Room 8 _ := hr
    refine ⟨_, (pss_one (ps_ret (pe_callB (cr_all rfl) (by rfl) T.bl.all (by decide +kernel) (pa_cons (pe_lc (own := [("_law_turn", 1)]) (g := gName 1) (tt := tYes) (by rfl) sc.nd (pi_range1 rfl T.bl.range (pa_cons (pe_callB (call_max2 rfl) (by rfl) T.bl.max (by decide +kernel) (pa_cons pe_int (pa_cons (pe_callB (call_min2 rfl) (by rfl) T.bl.min (by decide +kernel) (pa_cons (pe_callB call_len (by rfl) T.bl.len (by decide +kernel) (pa_cons (pv 0) pa_nil)) (pa_cons pe_int pa_nil))) pa_nil))) pa_nil)) (blkOk_by (own := [("_law_turn", 1)]) (N := nLaw) (sc := (defScope (top 45))) (by decide +kernel)) (fun _ _ _ _ _ => pg_name (i := 1) sc.nd rfl (Or.inl rfl)) (fun _ _ _ _ _ => pts_nil) (fun _ _ _ _ _ => (pe_callG GO hgd hrO rfl gO FO.kp bO .nil (pa_cons (pe_call GW hrW rfl gW FW.kp bW .nil pass0 (pa_cons (pv 0) (pa_cons (pv 1) pa_nil))) pa_nil)))) pa_nil)))), ?_⟩
    refine ⟨_, rfl, _, _, rfl, .inl ⟨_, hS, rfl⟩, _, _, rfl, _, _, rfl, ?_⟩
    have hm := few ((List.map V.int ns).length : Int)
    generalize (if (if (3 : Int) < ((List.map V.int ns).length : Int) then (3 : Int) else ((List.map V.int ns).length : Int)) > 2 then (if (3 : Int) < ((List.map V.int ns).length : Int) then (3 : Int) else ((List.map V.int ns).length : Int)) else 2) = m at hm ⊢
    refine ⟨m, rfl, by omega, by omega, fun D nD => lc_range (lo := 0) (n := m.toNat) (fun i H2 => Same H H2 ∧ H2 D = some (.lst ((List.replicate i true).map V.bl))) ⟨Same.new nD, upd_same⟩ ?_ ?_⟩
    · rintro i H2 hi ⟨sm, hD⟩
      have i3 : i < 3 := by omega
      refine ⟨rfl, ?_⟩
      refine iteT (B := Same H H2 ∧ H2 D = some (.lst ((List.replicate (i + 1) true).map V.bl))) ?_
      refine ⟨_, rfl, _, rfl, a, ns, _, rfl, sm.seq hS, by omega, by omega, fun w1 H3 nw s3 w3 => ?_⟩
      refine ⟨w1, 0, rfl, w3, by decide, fun H4 k4 => ?_⟩
      have nwD : D ≠ w1 := fun z => by
        rw [← z, hD] at nw
        cases nw
      refine ⟨_, k4 _ _ nwD (s3 _ _ hD), small1000 (by rw [List.length_map, List.length_replicate]; omega), fun b o e => ?_, ?_⟩
      · rw [upd_ne (ne_of_none e nD)]
        have e2 := sm b o e
        exact k4 b o (ne_of_none e2 nw) (s3 b o e2)
      · rw [upd_same, List.replicate_succ', List.map_append]
        rfl
    · rintro H2 ⟨sm, hD⟩
      refine ⟨D, _, rfl, SqL.of hD, ?_⟩
      rw [all_yes]
      exact q H2
end
end K1
namespace K1
open PySem PySem.Spec PyProof.Rows L2 KB
def blL : List Str := ["int", "abs", "divmod", "len", "repr", "isinstance", "range", "tuple", "zip", "min", "max", "all"]
def fa : List He.Fa := (fnL.map fun p => .glo p.1) ++ ((names ++ (["KindError"] : List Str)).map .glo ++ (blL ++ tyL).map .free)
/-! ### the Hook: sys.modules stands too, and the classes of errors are as they are said -/
def frS (g : Addr → Option Obj) : PySem.W.Frag := He.frG g (sysModules :: He.asD g 5)
def obsS (K : PySem.W.Frag) : He.AlD × Bool := (He.obsD fa fn K, exB K)
def saysS (K : PySem.W.Frag) : Prop := obsS K = (He.valD fn, true)
def hk : PySem.W.Hook where
  α := He.AlD × Bool
  obs := fun s => obsS (frS s.heap.get?)
  val := fun _ => (He.valD fn, true)
  says := fun _ h => ∃ K : PySem.W.Frag, K.In h ∧ saysS K
  of := fun _ _ e => ⟨_, He.frG_in, e⟩
  keeps := fun _ _ _ ⟨K, hK, c⟩ kp => ⟨K, PySem.W.Frag.In.keeps hK kp, c⟩
abbrev R : PySem.W.OpenRow := PySem.W.OpenLaw.row PySem.Challenge.rw_bykindalone_k01_errors_each_of_its_own
def ob (s : PySem.W.SharedT) : hk.α := obsS (frS (HandSHeadRun.getT s))
theorem ob_eq (s : PySem.W.SharedT) : ob s = hk.obs s.abs := by
  have e : HandSHeadRun.getT s = s.abs.heap.get? := funext (HandSHeadRun.getT_eq s)
  unfold ob
  rw [e] <;> rfl
def loose : List Str := (fnL.take 16).map (·.1) ++ names ++ (["KindError", "__name__"] : List Str)
theorem run (w : World) : HandSHeadRun.RunEq R (PySem.W.view R.prog [45]) hk ob 30000 loose w := by
  intro os
  kernel_rfl
end K1
namespace K1
open PySem PySem.Spec PyProof.Rows L2 KB KZ
section
variable {P : Program} {w : World} {K : PySem.W.Frag} {h : Heap} {mg : Str → Option Value} {base : Heap}
theorem top_of (X : K.In h) (G : h.Ns mainGlobals mg) (c : saysS K) : Top K mg := by
  have c1 : He.SaysD fa fn K := congrArg (fun z : He.AlD × Bool => z.1) c
  have c2 : exB K = true := congrArg (fun z : He.AlD × Bool => z.2) c
  have fact : ∀ f : He.Fa, f ∈ fa → f.ok K = true := fun f hf => by
    obtain ⟨i, hi⟩ := List.getElem?_of_mem hf
    exact c1.fact i hi
  have free : ∀ x, x ∈ blL ++ tyL → mg x = none := fun x hx => He.free_ok X G (fact (.free x) (List.mem_append_right _ (List.mem_append_right _ (List.mem_map.mpr ⟨x, hx, rfl⟩))))
  have bl : ∀ x, blL.contains x = true → mg x = none := fun x hx => free x (List.mem_append_left _ (List.contains_iff_mem.mp hx))
  refine ⟨⟨Option.isSome_iff_exists.mp (He.ba c2).1, bl _ (by decide +kernel), bl _ (by decide +kernel), bl _ (by decide +kernel), bl _ (by decide +kernel), bl _ (by decide +kernel), bl _ (by decide +kernel), bl _ (by decide +kernel), bl _ (by decide +kernel), bl _ (by decide +kernel), bl _ (by decide +kernel), bl _ (by decide +kernel), bl _ (by decide +kernel)⟩,
    fun x hx => free x (List.mem_append_right _ hx), c2, fun p hp => ?_, fun x hx => ?_, fun d hd => ?_⟩
  · exact He.glo_ok X G (fact (.glo p.1) (List.mem_append_left _ (List.mem_map.mpr ⟨p, hp, rfl⟩)))
  · exact He.glo_ok X G (fact (.glo x) (List.mem_append_right _ (List.mem_append_left _ (List.mem_map.mpr ⟨x, hx, rfl⟩))))
  · obtain ⟨i, hi⟩ := List.getElem?_of_mem hd
    obtain ⟨fd, F⟩ := c1.def_ i hi
    have no : d.dfl = [] ∧ d.kwd = [] := by
      rcases List.mem_append.mp hd with m | m
      · obtain ⟨p, _, rfl⟩ := List.mem_map.mp m
        exact ⟨rfl, rfl⟩
      · obtain ⟨p, _, rfl⟩ := List.mem_map.mp m
        exact ⟨rfl, rfl⟩
    unfold He.DefD.dvs He.DefD.kws at F
    rw [no.1, no.2] at F
    exact ⟨fd, F⟩
/-- one of the law's own defs -/
theorem Top.fn_ (T : Top K mg) (x : Str) (i : Nat) (h : fnL.contains (x, i) = true) : ∃ fd, FnP K x (top i) (He.ga K x) fd ∧ mg x = some (.ref (He.ga K x)) := by
  have m := List.contains_iff_mem.mp h
  obtain ⟨fd, F⟩ := T.def_ (dG x i) (List.mem_append_left _ (List.mem_map.mpr ⟨(x, i), m, rfl⟩))
  exact ⟨fd, F, T.fns _ m⟩
theorem law_all (T : Top K mg) : ∃ fd : FuncData, (∀ (s : Shared) (v : Value), BindsTo s fd ⟨[v], []⟩ [("_law_script", v)]) ∧ ∀ base : Heap, FnG P w K mg base 9 (He.ga K "law") fd ["_law_script"] (spLaw K) := by
  obtain ⟨fdW, FW, gW⟩ := T.fn_ "_law_well" 29 (by decide +kernel)
  obtain ⟨fdD, FD, gD⟩ := T.fn_ "_law_draw" 30 (by decide +kernel)
  obtain ⟨fdP, FP, gP⟩ := T.fn_ "_law_pick" 31 (by decide +kernel)
  obtain ⟨fdS, FS, gS⟩ := T.fn_ "_law_same" 32 (by decide +kernel)
  obtain ⟨fdO, FO, gO⟩ := T.fn_ "_law_odd" 33 (by decide +kernel)
  obtain ⟨fdT, FT, gT⟩ := T.fn_ "_law_thing" 34 (by decide +kernel)
  obtain ⟨fdBP, FBP, gBP⟩ := T.fn_ "_law_by_place" 35 (by decide +kernel)
  obtain ⟨fdLP, FLP, gLP⟩ := T.fn_ "_law_late_by_place" 36 (by decide +kernel)
  obtain ⟨fdBN, FBN, gBN⟩ := T.fn_ "_law_by_name" 37 (by decide +kernel)
  obtain ⟨fdLN, FLN, gLN⟩ := T.fn_ "_law_late_by_name" 38 (by decide +kernel)
  obtain ⟨fdK, FK, gK⟩ := T.fn_ "_law_kept" 39 (by decide +kernel)
  obtain ⟨fdC, FC, gC⟩ := T.fn_ "_law_of_classes" 40 (by decide +kernel)
  obtain ⟨fdI, FI, gI⟩ := T.fn_ "_law_is_of" 41 (by decide +kernel)
  obtain ⟨fdR, FR, gR⟩ := T.fn_ "_law_are_right" 42 (by decide +kernel)
  obtain ⟨fdM, FM, gM⟩ := T.fn_ "_law_met" 43 (by decide +kernel)
  obtain ⟨fd1, F1, g1⟩ := T.fn_ "_law_right" 44 (by decide +kernel)
  obtain ⟨fd, F, g⟩ := T.fn_ "law" 45 (by decide +kernel)
  have bW : Binds K fdW ["_law_script", "_law_turn"] [] := FW.bindsN fun _ _ _ _ _ _ us hl => match us, hl with | [_, _], _ => rfl
  have bD : Binds K fdD ["_law_well_here", "_law_many"] [] := FD.bindsN fun _ _ _ _ _ _ us hl => match us, hl with | [_, _], _ => rfl
  have bP : Binds K fdP ["_law_well_here", "_law_some"] [] := FP.bindsN fun _ _ _ _ _ _ us hl => match us, hl with | [_, _], _ => rfl
  have bS : Binds K fdS nSame [] := FS.bindsN fun _ _ _ _ _ _ us hl => match us, hl with | [_, _], _ => rfl
  have bO : Binds K fdO ["_law_well_here"] [] := FO.bindsN fun _ _ _ _ _ _ us hl => match us, hl with | [_], _ => rfl
  have bT : Binds K fdT ["_law_well_here", "_law_deep"] [] := FT.bindsN fun _ _ _ _ _ _ us hl => match us, hl with | [_, _], _ => rfl
  have bBP : Binds K fdBP nBy [] := FBP.bindsN fun _ _ _ _ _ _ us hl => match us, hl with | [_, _, _], _ => rfl
  have bLP : Binds K fdLP nBy [] := FLP.bindsN fun _ _ _ _ _ _ us hl => match us, hl with | [_, _, _], _ => rfl
  have bBN : Binds K fdBN nBy [] := FBN.bindsN fun _ _ _ _ _ _ us hl => match us, hl with | [_, _, _], _ => rfl
  have bLN : Binds K fdLN nBy [] := FLN.bindsN fun _ _ _ _ _ _ us hl => match us, hl with | [_, _, _], _ => rfl
  have bK : Binds K fdK nKept [] := FK.bindsN fun _ _ _ _ _ _ us hl => match us, hl with | [_, _], _ => rfl
  have bC : Binds K fdC ["_law_error"] [] := FC.bindsN fun _ _ _ _ _ _ us hl => match us, hl with | [_], _ => rfl
  have bI : Binds K fdI ["_law_number", "_law_error"] [] := FI.bindsN fun _ _ _ _ _ _ us hl => match us, hl with | [_, _], _ => rfl
  have bR : Binds K fdR ["_law_well_here", "_law_first"] [] := FR.bindsN fun _ _ _ _ _ _ us hl => match us, hl with | [_, _], _ => rfl
  have bM : Binds K fdM ["_law_number", "_law_one", "_law_two"] [] := FM.bindsN fun _ _ _ _ _ _ us hl => match us, hl with | [_, _, _], _ => rfl
  have b1 : Binds K fd1 ["_law_well_here"] [] := F1.bindsN fun _ _ _ _ _ _ us hl => match us, hl with | [_], _ => rfl
  have b := FunD.bindsA (ps := ["_law_script"]) F fun _ _ _ _ _ _ us hl => match us, hl with | [_], _ => rfl
  refine ⟨fd, fun s v => b s [v] rfl, fun base => ?_⟩
  have hD : Has P w K mg base "_law_draw" 30 ["_law_well_here", "_law_many"] 1 spDraw := ⟨_, fdD, FD, gD, bD, ok_draw FD T.bl⟩
  have GP : FnOk P w K mg base CX0 2 (He.ga K "_law_pick") fdP ["_law_well_here", "_law_some"] (spPick K) := ok_pick FP T.bl FD gD bD
  have GO : FnOk P w K mg base CX0 3 (He.ga K "_law_odd") fdO ["_law_well_here"] (spOdd oddL) := ok_odd FO FP gP bP GP
  have GT := ok_thing (P := P) (w := w) (base := base) FT T.bl FD gD bD FO gO bO GO gT bT
  have hT2 : Has P w K mg base "_law_thing" 34 ["_law_well_here", "_law_deep"] 6 (spThing 2) := ⟨_, fdT, FT, gT, bT, GT 2⟩
  have hT1 : Has P w K mg base "_law_thing" 34 ["_law_well_here", "_law_deep"] 5 (spThing 1) := ⟨_, fdT, FT, gT, bT, GT 1⟩
  have hP : Has P w K mg base "_law_by_place" 35 nBy 4 (spBy K 0) := ⟨_, fdBP, FBP, gBP, bBP, ok_ByP FBP T FLP gLP bLP (ok_LateP FLP T)⟩
  have hN : Has P w K mg base "_law_by_name" 37 nBy 4 (spBy K 0) := ⟨_, fdBN, FBN, gBN, bBN, ok_ByN FBN T FLN gLN bLN (ok_LateN FLN T)⟩
  have GC := ok_cls (P := P) (w := w) (base := base) FC T
  have hC : Has P w K mg base "_law_of_classes" 40 ["_law_error"] 1 (spCls K) := ⟨_, fdC, FC, gC, bC, GC⟩
  have hI : Has P w K mg base "_law_is_of" 41 ["_law_number", "_law_error"] 2 (spIsOf K) := ⟨_, fdI, FI, gI, bI, ok_isOf FI T FC gC bC GC⟩
  have hK : Has P w K mg base "_law_kept" 39 nKept 1 (spKept K) := ⟨_, fdK, FK, gK, bK, ok_kept FK T⟩
  have hS : HasG P w K mg base "_law_same" 32 nSame 1 spSame := ⟨_, fdS, FS, gS, bS, ok_same FS T⟩
  have hR : HasG P w K mg base "_law_are_right" 42 ["_law_well_here", "_law_first"] 7 spRight := ⟨_, fdR, FR, gR, bR, ok_right FR T hD hT2 hT1 hP hN hI hK hS⟩
  have hM : Has P w K mg base "_law_met" 43 ["_law_number", "_law_one", "_law_two"] 3 spMet := ⟨_, fdM, FM, gM, bM, ok_met FM T ⟨_, fdK, FK, gK, bK, ok_keptW FK T⟩⟩
  have h1 : HasG P w K mg base "_law_right" 44 ["_law_well_here"] 8 spOne := ⟨_, fd1, F1, g1, b1, ok_one F1 T hD hT2 hC hM hS hR⟩
  exact ok_law F T ⟨_, fdW, FW, gW, bW, ok_well FW T.bl⟩ h1
end
end K1
open PySem PyProof.Rows PySem.W PySem.Calls
set_option maxRecDepth 99999 in
set_option maxHeartbeats 0 in
theorem PySem.Challenge.cw_bykindalone_k01_errors_each_of_its_own_holds : PySem.Challenge.rw_bykindalone_k01_errors_each_of_its_own.Holds := by
  w_on; o_law
  refine HandSHeadRun.head_any (r := OpenLaw.row PySem.Challenge.rw_bykindalone_k01_errors_each_of_its_own) (q := view (OpenLaw.row PySem.Challenge.rw_bykindalone_k01_errors_each_of_its_own).prog [45]) (H := K1.hk) (ob := K1.ob) (M := 30000) (loose := K1.loose)
    (d := HandSHeadRun.topDef (OpenLaw.row PySem.Challenge.rw_bykindalone_k01_errors_each_of_its_own).prog 45) (kwd := []) K1.ob_eq
    (by kernel_rfl) (fun s => by kernel_rfl) K1.run (by kernel_rfl) (by kernel_rfl) (by kernel_rfl) (by rfl) (by first | assumption | decide +kernel) (by decide +kernel) ⟨rfl, rfl, rfl, rfl, rfl, by decide +kernel⟩ ?hw ?hc
  case hw => w_witness2
  case hc =>
    refine KB.walk_ofG (l := PySem.Challenge.rw_bykindalone_k01_errors_each_of_its_own) (n := 63) (k := 9) (x := "_law_script") rfl (by decide) (by kernel_rfl) ⟨rfl, by decide, by decide⟩ ?F
    intro w mg fa h Y G hmg0
    obtain ⟨K, KX, c⟩ := Y
    have T := K1.top_of KX G c
    have atLaw : mg ("law" : PySem.Str) = some (.ref fa) := by
      have e : (HandSHeadRun.topDef (OpenLaw.row PySem.Challenge.rw_bykindalone_k01_errors_each_of_its_own).prog 45).name = ("law" : PySem.Str) := by kernel_rfl
      rw [← e]
      exact hmg0
    have hga : fa = He.ga K "law" := by
      have z := atLaw.symm.trans (T.fns ("law", 45) (List.contains_iff_mem.mp (by decide +kernel)))
      cases z
      rfl
    subst hga
    obtain ⟨fd, hb, hF⟩ := K1.law_all (P := (PySem.Challenge.rw_bykindalone_k01_errors_each_of_its_own).prog) (w := w) T
    exact ⟨K, fd, K1.spLaw K, KX, hb, fun H a ns hl _ hS => ⟨a, ns, rfl, hS, fun _ => rfl⟩, fun base _ _ => hF base⟩
