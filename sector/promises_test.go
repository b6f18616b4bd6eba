package sector_test

import (
	"math"
	"math/rand/v2"
	"remit/api"
	"remit/sector"
	"slices"
	"strings"
	"testing"
)

// parts say the form of a sector in another way, as numbers and texts that are joined; turned bits of the sum are wrong.
type parts struct {
	front, back uint64
	size        int
	room        string
	turned      uint32
}

// bytesOf are the n lowest bytes of a number, the low one first.
func bytesOf(x uint64, n int) string {
	if n == 0 {
		return ""
	}
	return string([]byte{byte(x % 256)}) + bytesOf(x/256, n-1)
}

// crc is the CRC-32C, bit by bit.
func crc(s string) uint32 {
	register := uint32(math.MaxUint32)
	for i := range len(s) {
		register ^= uint32(s[i])
		for range 8 {
			out := register & 1
			register >>= 1
			if out == 1 {
				register ^= 0x82f63b78
			}
		}
	}
	return ^register
}

func (p parts) raw() string {
	head := bytesOf(p.front, 8) + bytesOf(uint64(p.size), 2) + p.room
	return head + bytesOf(uint64(crc(head)^p.turned), 4) + bytesOf(p.back, 8)
}

// form is the sector of a stamp and a payload.
func form(stamp uint64, payload string) string {
	room := payload + strings.Repeat("\x00", api.MaxPayload-len(payload))
	return parts{front: stamp, size: len(payload), room: room, back: stamp}.raw()
}

// model looks for the payload of which raw is the sector, among all that it can be.
func model(stamp uint64, raw string) (string, bool) {
	if stamp == 0 || len(raw) != api.SectorSize {
		return "", false
	}
	// A payload ends at a byte that isn't 0, or in the zeros behind the last of these.
	last := len(strings.TrimRight(raw[10:244], "\x00"))
	for n := last; n <= api.MaxPayload; n++ {
		if raw[8:10] == bytesOf(uint64(n), 2) && raw == form(stamp, raw[10:10+n]) {
			return raw[10 : 10+n], true
		}
	}
	return "", false
}

// stamps hold those whose bytes are alike but for one, small ones, and the greatest.
func stamps() []uint64 {
	out := []uint64{1, 2, 3, 255, 256, 257, 258, 511, 512, 513, 0xffff, 0x10000, 0x0100000000000000, math.MaxUint64 - 1, math.MaxUint64}
	for shift := 0; shift < 64; shift += 8 {
		out = append(out, 5<<shift, 0xff<<shift, 0x0505050505050505^1<<shift)
	}
	slices.Sort(out)
	return slices.Compact(out)
}

// payloads are such that many of their bytes are alike, zeros among them.
func payloads() []string {
	return []string{"", "\x00", "a", "b", "ab", "\x01\x02\x03", nothing(234), strings.Repeat("\xff", 234), strings.Repeat("ab", 117)}
}

func anyPayload(rnd *rand.Rand) string {
	raw := make([]byte, rnd.IntN(api.MaxPayload+1))
	alike := rnd.IntN(3) == 0
	for i := range raw {
		raw[i] = byte(rnd.Uint32())
		if alike {
			raw[i] %= 2
		}
	}
	return string(raw)
}

// anyStamp is one of few or many bytes, each of few values or of any.
func anyStamp(rnd *rand.Rand) uint64 {
	stamp := rnd.Uint64()
	if rnd.IntN(2) == 0 {
		stamp &= 0x0101010101010101
	}
	return max(stamp>>(8*rnd.IntN(8)), 1)
}

// TestFormOfSectors asks for P7.1 and P7.2: the sectors of all sizes of payloads.
func TestFormOfSectors(t *testing.T) {
	rnd := rand.New(rand.NewPCG(1, 2))
	for _, stamp := range stamps() {
		for _, payload := range payloads() {
			checkSeal(t, stamp, payload, form(stamp, payload), nil)
		}
	}
	for size := range api.MaxPayload + 1 {
		for _, letter := range []string{"\x00", "\x01", "x", "\xff"} {
			stamp, payload := anyStamp(rnd), strings.Repeat(letter, size)
			checkSeal(t, stamp, payload, form(stamp, payload), nil)
			checkOpen(t, stamp, form(stamp, payload), payload, true)
		}
	}
	for range 2000 {
		stamp, payload := anyStamp(rnd), anyPayload(rnd)
		checkSeal(t, stamp, payload, form(stamp, payload), nil)
		checkOpen(t, stamp, form(stamp, payload), payload, true)
	}
}

// TestAnyTexts asks for P7.1: Open of texts that are nearly sectors, their sums made to fit at times.
func TestAnyTexts(t *testing.T) {
	rnd := rand.New(rand.NewPCG(3, 4))
	counted := 0
	for range 20000 {
		stamp := anyStamp(rnd)
		raw := []byte(form(stamp, anyPayload(rnd)))
		for range rnd.IntN(3) {
			raw[[]int{0, 7, 8, 9, 10, 243, 244, 248, 255, rnd.IntN(256)}[rnd.IntN(10)]] ^= byte(1 << rnd.IntN(8))
		}
		if rnd.IntN(2) == 0 {
			copy(raw[244:], bytesOf(uint64(crc(string(raw[:244]))), 4))
		}
		want, wantOk := model(stamp, string(raw))
		checkOpen(t, stamp, string(raw), want, wantOk)
		if wantOk {
			counted++
		}
	}
	if counted < 5000 || counted > 15000 {
		t.Errorf("%d of the texts count", counted)
	}
}

// TestSizes asks for P7.1: each number that may stand where the payload's size does.
func TestSizes(t *testing.T) {
	for size := range 1 << 16 {
		p := parts{front: 7, size: size, room: "ab" + nothing(232), back: 7}
		if size > 1000 && size%256 != 2 {
			continue
		}
		want, wantOk := "", size >= 2 && size <= 234
		if wantOk {
			want = p.room[:size]
		}
		checkOpen(t, 7, p.raw(), want, wantOk)
	}
}

// TestEachSizeOfTexts asks for P7.1: what hasn't the size of a sector doesn't count, has no ends, and isn't torn.
func TestEachSizeOfTexts(t *testing.T) {
	whole := sealed(t, 1, "ab")
	for size := range 600 {
		raw := (whole + zeros + zeros)[:size]
		if size == api.SectorSize {
			continue
		}
		checkOpen(t, 1, raw, "", false)
		checkEnds(t, raw, 0, 0, api.ErrForm)
		checkTear(t, raw, whole, 8, "", api.ErrForm)
		checkTear(t, whole, raw, 8, "", api.ErrForm)
	}
}

// TestEachTurnedByte asks for P7.2: a sector that differs anywhere counts under no stamp.
func TestEachTurnedByte(t *testing.T) {
	for _, payload := range payloads() {
		raw := sealed(t, 258, payload)
		for i := range len(raw) {
			for bit := range 8 {
				turned := raw[:i] + string([]byte{raw[i] ^ 1<<bit}) + raw[i+1:]
				front, back, err := sector.Ends(turned)
				if err != nil {
					t.Fatal(err)
				}
				for _, stamp := range []uint64{258, front, back} {
					checkOpen(t, stamp, turned, "", false)
				}
			}
		}
	}
}

// TestCountsUnderOne asks for P7.2: one stamp and one payload a sector.
func TestCountsUnderOne(t *testing.T) {
	all := stamps()
	for _, payload := range payloads() {
		for _, stamp := range all {
			raw := sealed(t, stamp, payload)
			for _, other := range append([]uint64{0}, all...) {
				want := ""
				if other == stamp {
					want = payload
				}
				checkOpen(t, other, raw, want, other == stamp)
			}
			for _, other := range payloads() {
				if other != payload && sealed(t, stamp, other) == raw {
					t.Errorf("%q and %q are one sector under %d", payload, other, stamp)
				}
			}
		}
	}
}

// oneTear asks what a tear of fresh over old counts under, where old is of the stamp was, or of none (0).
func oneTear(t *testing.T, old string, was uint64, fresh string, is uint64, n int) {
	t.Helper()
	raw := torn(t, old, fresh, n)
	if raw != fresh[:n]+old[n:] {
		t.Fatalf("Tear(%q, %q, %d) is %q", old, fresh, n, raw)
	}
	if counts(is, raw) != (raw == fresh) {
		t.Fatalf("torn behind %d, %q over %q counts under the new stamp: %v", n, fresh, old, raw != fresh)
	}
	if was != 0 && counts(was, raw) != (raw == old) {
		t.Fatalf("torn behind %d, %q over %q counts under the old stamp: %v", n, fresh, old, raw != old)
	}
	front, back, err := sector.Ends(raw)
	if err != nil {
		t.Fatal(err)
	}
	for _, third := range []uint64{front, back, 0, 1, was - 1, was + 1, is - 1, is + 1} {
		if third != is && third != was && counts(third, raw) {
			t.Fatalf("torn behind %d, %q over %q counts under %d", n, fresh, old, third)
		}
	}
}

// TestOneTear asks for P7.3.
func TestOneTear(t *testing.T) {
	list := stamps()
	for i, was := range append([]uint64{0}, list...) {
		old := zeros
		if was != 0 {
			old = sealed(t, was, payloads()[i%len(payloads())])
		}
		for j, is := range list {
			if is == was {
				continue
			}
			// All bytes but those of the ends are of few values: the tears at these are asked one by one.
			fresh := sealed(t, is, payloads()[(i/2+j)%len(payloads())])
			for n := range 257 {
				if n < 16 || n > 240 || (i+j+n)%8 == 0 {
					oneTear(t, old, was, fresh, is, n)
				}
			}
		}
	}
}

// TestAnyTear asks for P7.3.
func TestAnyTear(t *testing.T) {
	rnd := rand.New(rand.NewPCG(5, 6))
	for range 5000 {
		was, is := anyStamp(rnd), anyStamp(rnd)
		if was == is {
			continue
		}
		old, fresh := sealed(t, was, anyPayload(rnd)), sealed(t, is, anyPayload(rnd))
		oneTear(t, old, was, fresh, is, rnd.IntN(257))
		oneTear(t, old, was, fresh, is, 248+rnd.IntN(9))
		oneTear(t, zeros, 0, fresh, is, 248+rnd.IntN(9))
	}
}

// place is where sectors are written one behind the other, each under a greater stamp.
type place struct {
	raw  string
	used []uint64
	last string
}

// write lets n bytes of the next sector be done, and asks for what counts then.
func (p *place) write(t *testing.T, stamp uint64, payload string, n int) {
	t.Helper()
	p.last = sealed(t, stamp, payload)
	p.raw = torn(t, p.raw, p.last, n)
	p.used = append(p.used, stamp)
	if counts(stamp, p.raw) != (p.raw == p.last) {
		t.Fatalf("behind the stamps %d, %q counts under the last: %v; its sector is %q", p.used, p.raw, p.raw != p.last, p.last)
	}
	front, back, err := sector.Ends(p.raw)
	if err != nil {
		t.Fatal(err)
	}
	for _, greater := range []uint64{front, back, stamp + 1, stamp + 256, stamp | 0xff, math.MaxUint64} {
		if greater > stamp && counts(greater, p.raw) {
			t.Fatalf("behind the stamps %d, %q counts under %d", p.used, p.raw, greater)
		}
	}
}

// TestThreeTears asks for P7.4: each three tears of stamps near each other.
func TestThreeTears(t *testing.T) {
	cuts := []int{0, 1, 7, 8, 9, 128, 244, 248, 249, 250, 251, 255, 256}
	for _, list := range [][]uint64{{1, 2, 3}, {255, 256, 257}, {255, 257, 511}, {0xffff, 0x10000, 0x10001}, {256, 512, 513}, {1, 1 << 56, math.MaxUint64}} {
		for which := range len(cuts) * len(cuts) * len(cuts) {
			p := &place{raw: zeros}
			for i, stamp := range list {
				p.write(t, stamp, payloads()[(which+i)%3], cuts[which%len(cuts)])
				which /= len(cuts)
			}
		}
	}
}

// TestManyTears asks for P7.4.
func TestManyTears(t *testing.T) {
	rnd := rand.New(rand.NewPCG(7, 8))
	whole := 0
	for range 1000 {
		p := &place{raw: zeros}
		step := uint64(1) << rnd.IntN(50)
		stamp := uint64(0)
		for range 30 {
			stamp += 1 + rnd.Uint64N(step)
			p.write(t, stamp, anyPayload(rnd), anyCut(rnd))
			if p.raw == p.last {
				whole++
			}
		}
	}
	if whole < 5000 || whole > 25000 {
		t.Errorf("%d of the sectors are whole", whole)
	}
}

// anyCut is often in a sector's ends, or none of it.
func anyCut(rnd *rand.Rand) int {
	switch rnd.IntN(6) {
	case 0:
		return 0
	case 1:
		return rnd.IntN(9)
	case 2, 3:
		return 248 + rnd.IntN(9)
	case 4:
		return 256
	}
	return rnd.IntN(257)
}

// TestStampsOfLogs asks for P7.5.
func TestStampsOfLogs(t *testing.T) {
	versions := []int{1, 2, 3, 15, 16, 17, 1000, 1<<20 - 1, 1 << 20, 1<<20 + 1, 1<<32 - 1, 1 << 32, 1<<40 - 1, 1 << 40}
	greatest := uint64(0)
	for _, version := range versions {
		for i := range api.MaxSectors {
			stamp, err := sector.Log(version, i)
			// Rising through all places of one version, then through those of the next one, no two are alike.
			if err != nil || stamp <= greatest {
				t.Fatalf("Log(%d, %d): %d, %v, behind %d", version, i, stamp, err, greatest)
			}
			greatest = stamp
		}
	}
}

// TestAnyLogs asks for P7.1 and P7.5.
func TestAnyLogs(t *testing.T) {
	rnd := rand.New(rand.NewPCG(9, 10))
	for range 100000 {
		version, i := rnd.IntN(api.MaxVersion)+1, rnd.IntN(api.MaxSectors)
		checkLog(t, version, i, uint64(version)<<20+uint64(i)+1, nil)
		checkLog(t, version, i-api.MaxSectors, 0, api.ErrRange)
		checkLog(t, version, i+api.MaxSectors, 0, api.ErrRange)
		checkLog(t, version-api.MaxVersion-1, i, 0, api.ErrRange)
		checkLog(t, version+api.MaxVersion, i, 0, api.ErrRange)
	}
}
