package vol

import (
	"errors"
	"slices"
	"strconv"
	"strings"

	"corncrib/api"
	"corncrib/check"
	"corncrib/disk"
	"corncrib/heads"
	"corncrib/index"
	"corncrib/scan"
)

// Open tells a volume that is there, whatever a crash has left of it.
func Open(d *disk.Disk, number, most int) (*Vol, error) {
	if d == nil {
		return nil, api.ErrNil
	}
	if !can(number, most) {
		return nil, api.ErrArg
	}
	m, err := manifest(d, number)
	if err != nil {
		return nil, err
	}
	v := &Vol{d: d, m: m, most: most}
	if err := v.load(); err != nil {
		return nil, err
	}
	if err := v.tidy(); err != nil {
		return nil, err
	}
	return v, nil
}

// manifest tells a volume's manifest.
func manifest(d *disk.Disk, number int) (heads.Manifest, error) {
	// The generation plays no part in the manifest's name.
	_, _, name, _ := heads.Names(number, firstGen)
	b, err := whole(d, name)
	if err != nil {
		return heads.Manifest{}, err
	}
	m, err := heads.GetManifest(b)
	if err == nil && m.Volume != number {
		err = api.ErrForm
	}
	if err != nil {
		return heads.Manifest{}, &api.At{File: name, Off: 0, Err: err}
	}
	return m, nil
}

// load reads the data file, and cuts off what a crash has torn.
func (v *Vol) load() error {
	b, err := v.data()
	if err != nil {
		return err
	}
	from, err := v.begin(len(b))
	if err != nil {
		return err
	}
	found, end, err := scan.All(v.file(), b, from)
	for _, f := range found {
		// What has no room any more is left out, as index.New leaves it: no volume
		// writes so many keys.
		_ = v.x.Put(position(f.N, f.Off))
	}
	v.size = end
	if scan.Torn(err) {
		return v.d.Cut(v.file(), end)
	}
	return err
}

// data tells the bytes of the data file, which begin with its superblock.
func (v *Vol) data() ([]byte, error) {
	b, err := whole(v.d, v.file())
	if errors.Is(err, api.ErrNone) {
		return nil, &api.At{File: v.file(), Off: 0, Err: err}
	}
	if err != nil {
		return nil, err
	}
	s, err := scan.Super(v.file(), b)
	if err != nil {
		return nil, err
	}
	if s.Volume != v.m.Volume || s.Gen != v.m.Gen {
		return nil, &api.At{File: v.file(), Off: 0, Err: api.ErrForm}
	}
	return b, nil
}

// begin lays what is known ahead of the scan of a file of this size, and tells
// where the scan begins.
func (v *Vol) begin(size int) (int, error) {
	_, name, _, _ := heads.Names(v.m.Volume, v.m.Gen)
	b, err := whole(v.d, name)
	if err != nil && !errors.Is(err, api.ErrNone) {
		return 0, err
	}
	// Of no bytes, as where there is no checkpoint, check tells an error as well.
	c, err := check.Get(b)
	if err != nil || c.Volume != v.m.Volume || c.Gen != v.m.Gen || c.Upto < heads.SuperSize || c.Upto > size {
		v.x = index.New(nil)
		return heads.SuperSize, nil
	}
	v.x = index.New(c.L)
	return c.Upto, nil
}

// tidy removes what other generations, or a crash, have left of the volume.
func (v *Vol) tidy() error {
	data, point, manifest, _ := heads.Names(v.m.Volume, v.m.Gen)
	removed := false
	for _, name := range v.d.Names() {
		if !v.owns(name) || slices.Contains([]string{data, point, manifest}, name) {
			continue
		}
		if err := v.d.Remove(name); err != nil {
			return err
		}
		removed = true
	}
	if !removed {
		return nil
	}
	return v.d.SyncNames()
}

// owns tells whether a name is one that a file of the volume may have, of
// whatever generation.
func (v *Vol) owns(name string) bool {
	_, digits, _ := strings.Cut(name, ".")
	// If these are no number there is none of a generation: 0 is as good as any.
	gen, _ := strconv.Atoi(digits)
	data, point, manifest, shadow := heads.Names(v.m.Volume, gen)
	return slices.Contains([]string{data, point, manifest, shadow}, name)
}

// whole tells all bytes of a file.
func whole(d *disk.Disk, name string) ([]byte, error) {
	n, err := d.Size(name)
	if err != nil {
		return nil, err
	}
	return d.Read(name, 0, n)
}
