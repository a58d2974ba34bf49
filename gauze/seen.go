package gauze

import (
	"gauze/api"
	"gauze/paths"
)

// checkDir tells why what is seen at a path is no directory, or OK.
func checkDir(seen *paths.Map[api.Item], path string) api.Errno {
	if path == paths.Root {
		return api.OK
	}
	item, there := seen.Get(path)
	if !there {
		return api.ErrNone
	}
	if item.Kind != api.Dir {
		return api.ErrKind
	}
	return api.OK
}

// checkFile tells why no file may stand at a path, or OK.
func checkFile(seen *paths.Map[api.Item], path string) api.Errno {
	if e := checkDir(seen, paths.Parent(path)); e != api.OK {
		return e
	}
	if item, there := seen.Get(path); there && item.Kind == api.Dir {
		return api.ErrKind
	}
	return api.OK
}

// inside are the last steps of what is seen in a directory. Their order is that of the paths, which differ in the last step alone.
func inside(seen *paths.Map[api.Item], dir string) []string {
	var steps []string
	for item := range seen.All() {
		if paths.Parent(item.Path) == dir {
			steps = append(steps, paths.Last(item.Path))
		}
	}
	return steps
}
